import PyProof.Rows.All
import Wide.All
import OpenK.AllK
import Wide.FinOn
import Lean
import PyProof.EqAt
import PyProof.EqKinds
import PyProof.TupleCall
import KE.KIntText
import KE.KRevSl
import PyProof.Rows.SeqMore
import PyProof.WalkInts
import PyProof.Rows.MinMaxN
import PyProof.ExcInit
import OpenK.KMake
import PyProof.InstStoreFacts
import PyProof.FString2
import PyProof.Rows.FStr
import PyProof.Rows.SetFrom
import PyProof.SeqRoads2
import PyProof.RangeFor
import PyProof.WalksMore
import PyProof.StrBlock2
import PyProof.Rows.SortShell
import PyProof.TupleOfSeq
import KE.KDictList
import KE.KDictOf
import PyProof.IsiH_tuple
import PySem.Challenge.RW_chordbed_k31_letters_and_layers
set_option Elab.async false
set_option linter.all false
set_option maxRecDepth 100000
namespace L2
open PySem PySem.Spec PyProof.Rows
abbrev bJ:=Sum Int Str
noncomputable def qC:bJ→Value→Bool
 | .inl k,v=>Value.isInt k v
 | .inr x,v=>Value.isStrOf x v
noncomputable def HI (w:World):bJ→Int
 | .inl k=>hashInt k
 | .inr x=>hashStr w x
theorem df:∀{k:bJ} {v:Value},qC k v=true→(∃i t,k=Sum.inl i∧v=Value.int i t)∨(∃x t,k=Sum.inr x∧v=Value.str x t)
 | .inl i,v,h=>by
  obtain⟨t,e⟩:=Value.isInt_shape (k:=i) (v:=v) h
  exact .inl ⟨i,t,rfl,e⟩
 | .inr x,v,h=>by
  obtain⟨t,e⟩:=Value.isStrOf_shape (x:=x) (v:=v) h
  exact .inr ⟨x,t,rfl,e⟩
theorem yX (i:Int) (t:Tok):qC (.inl i) (.int i t)=true:=by simp[qC,Value.isInt]
theorem yR (x:Str) (t:Tok):qC (.inr x) (.str x t)=true:=by simp[qC,Value.isStrOf]
theorem Ex (a b:Int):decide ((Sum.inl a:bJ)=Sum.inl b)=(a==b):=by
 by_cases e:a=b
 ·subst e;simp
 ·have h:¬(Sum.inl a:bJ)=Sum.inl b:=fun q=>e (Sum.inl.inj q)
  rw[decide_eq_false h]
  exact(beq_eq_false_iff_ne.mpr e).symm
theorem FC (a b:Str):decide ((Sum.inr a:bJ)=Sum.inr b)=decide (a=b):=by
 by_cases e:a=b
 ·subst e;simp
 ·have h:¬(Sum.inr a:bJ)=Sum.inr b:=fun q=>e (Sum.inr.inj q)
  rw[decide_eq_false h,decide_eq_false e]
theorem Fy (a:Int) (b:Str):decide ((Sum.inl a:bJ)=Sum.inr b)=false:=decide_eq_false (fun q=>nomatch q)
theorem F1 (a:Str) (b:Int):decide ((Sum.inr a:bJ)=Sum.inl b)=false:=decide_eq_false (fun q=>nomatch q)
noncomputable def ce (prog:Program) (w:World):PySem.KeyKind prog w bJ where
 is:=qC
 hash:=HI w
 inj:=fun v a b ha hb=>by
  rcases df ha with⟨i,t,rfl,rfl⟩|⟨x,t,rfl,rfl⟩
  ·rcases df hb with⟨j,u,rfl,e⟩|⟨y,u,rfl,e⟩
   ·injection e with e1 _;rw[e1]
   ·exact nomatch e
  ·rcases df hb with⟨j,u,rfl,e⟩|⟨y,u,rfl,e⟩
   ·exact nomatch e
   ·injection e with e1 _;rw[e1]
 byValue:=fun k v h=>by
  rcases df h with⟨i,t,rfl,rfl⟩|⟨x,t,rfl,rfl⟩<;>rfl
 pyHash:=fun hv h=>by
  rcases df hv with⟨i,t,rfl,rfl⟩|⟨x,t,rfl,rfl⟩
  ·exact wpAny_pyHash_int h
  ·exact wpAny_pyHash_str h
 eqBool:=fun hu hv h=>by
  rcases df hu with⟨i,t,rfl,rfl⟩|⟨x,t,rfl,rfl⟩
  ·rcases df hv with⟨j,u,rfl,rfl⟩|⟨y,u,rfl,rfl⟩
   ·rw[Ex] at h;exact wpAny_eqBool_int h
   ·rw[Fy] at h;exact SeqAt.EqAt.int_str i t y u _ _ _ _ h
  ·rcases df hv with⟨j,u,rfl,rfl⟩|⟨y,u,rfl,rfl⟩
   ·rw[F1] at h;exact SeqAt.EqAt.str_int x t j u _ _ _ _ h
   ·rw[FC] at h;exact wpAny_eqBool_str h
 «strs»:=fun k x t v h=>by
  rcases df h with⟨i,u,rfl,e⟩|⟨y,u,rfl,e⟩
  ·exact nomatch e
  ·injection e with e1 _
   subst e1
   cases v<;>rfl
theorem uj (prog:Program) (w:World) (i:Int) (t:Tok):(ce prog w).is (.inl i) (.int i t)=true:=yX i t
theorem ue (prog:Program) (w:World) (x:Str) (t:Tok):(ce prog w).is (.inr x) (.str x t)=true:=yR x t
end L2
namespace L2
open PySem PySem.Spec PyProof.Rows
inductive V where
 |non|bl (b:Bool)|int (i:Int)|str (x:Str)|byt (b:Array UInt8)|flt (b:UInt64)|ref (a:Addr)|ty (n:String)
 deriving DecidableEq
def RelV:V→Value→Prop
 | .non,u=>u=Value.none
 | .bl b,u=>u=Value.bool b
 | .int i,u=>∃t,u=Value.int i t
 | .str x,u=>∃t,u=Value.str x t
 | .byt b,u=>∃t,u=Value.bytes b t
 | .flt b,u=>∃t,u=Value.float b t
 | .ref a,u=>u=Value.ref a
 | .ty n,u=>u=Value.type n
noncomputable abbrev Vals:List V→List Value→Prop:=Paired RelV
theorem Vals.length {xs:List V} {us:List Value} (r:Vals xs us):xs.length=us.length:=Paired.length r
theorem Vals.get:∀{xs:List V} {us:List Value} {i:Nat} {x:V},Vals xs us→xs[i]? =some x→∃u,us[i]? =some u∧RelV x u
 |_,_,_,_,.nil,e=>by simp at e
 |_,_,0,_,.cons r _,e=>by simp at e;subst e;exact⟨_,rfl,r⟩
 |_,_,i+1,x,.cons _ t,e=>by
  obtain⟨u,h1,h2⟩:=Vals.get (i:=i) (x:=x) t (by simpa using e)
  exact⟨u,by simpa using h1,h2⟩
theorem Vals.append:∀{xs ys:List V} {us ws:List Value},Vals xs us→Vals ys ws→Vals (xs++ys) (us++ws)
 |_,_,_,_,.nil,s=>s
 |_,_,_,_,.cons r t,s=> .cons r (Vals.append t s)
theorem Vals.take:∀{xs:List V} {us:List Value} (n:Nat),Vals xs us→Vals (xs.take n) (us.take n)
 |_,_,0,_=> .nil
 |_,_,_+1,.nil=> .nil
 |_,_,n+1,.cons r t=> .cons r (Vals.take n t)
theorem Vals.drop:∀{xs:List V} {us:List Value} (n:Nat),Vals xs us→Vals (xs.drop n) (us.drop n)
 |_,_,0,r=>r
 |_,_,_+1,.nil=> .nil
 |_,_,n+1,.cons _ t=>Vals.drop n t
def RelO:Option V→Option Value→Prop
 |some v,some u=>RelV v u
 |none,none=>True
 |_,_=>False
def KV {κ:Type}:List (κ×V)→List (κ×Value)→Prop:=Paired fun(p:κ×V) (q:κ×Value)=>p.1=q.1∧RelV p.2 q.2
noncomputable def kV:bJ→V
 | .inl i=> .int i
 | .inr x=> .str x
inductive HO where
 |lst (xs:List V)
 |tup (xs:List V)
 |dK (kvs:List (bJ×V))|dT (kvs:List (List bJ×V))
 |set (S:Int→Bool) (n:Nat)
 |ins (C dx:Addr) (fs:List (Str×V))
 |own (x:Addr)
 |xd (fs:List (Str×V))
 |met (f x:Addr)
 |rng (lo hi:Int)
 |frz (o:Obj) (u:HO)
 |tbl (ps:Array Value)
 |ext (φ:Heap→Prop)
abbrev Hp:=Addr→Option HO
noncomputable def bL (H:Hp) (a:Addr) (o:HO):Hp:=fun b=>if b=a then some o else H b
theorem aO {H:Hp} {a:Addr} {o:HO}:bL H a o a=some o:=by unfold bL;rw[if_pos rfl]
theorem aX {H:Hp} {a b:Addr} {o:HO} (h:b≠a):bL H a o b=H b:=by unfold bL;rw[if_neg h]
theorem G0 {H:Hp} {a b:Addr} {o u:HO} (h:H a=some o) (h':H b=some u) (d:o≠u):a≠b:=by
 intro e;subst e;rw[h] at h';exact d (Option.some.inj h')
theorem cj {H:Hp} {a b:Addr} {o:HO} (h:H a=some o) (h':H b=none):a≠b:=by
 intro e;subst e;rw[h] at h';cases h'
def TupX (h:Heap) (a:Addr) (items:Array Value):Prop:=∃o,h.get? a=some o∧(o.cls= .type "tuple"∧∃n,o.data= .seq items n)∧o.dict=none
theorem TupX.tup {h:Heap} {a:Addr} {items:Array Value} (x:TupX h a items):IsTup h a items:=let⟨o,e,c,_⟩:=x;⟨o,e,c⟩
theorem TupX.lt {h:Heap} {a:Addr} {items:Array Value} (x:TupX h a items):a<h.objs.size:=let⟨_,e,_⟩:=x;Heap.lt_size e
theorem TupX.new (h:Heap) (xs:Array Value):TupX (h.push {cls:= .type "tuple",data:= .seq xs}) h.objs.size xs:=⟨_,Heap.get?_push_size _ rfl,⟨rfl,_,rfl⟩,rfl⟩
section
variable (P:Program) (w:World)
def ObjOk (H:Hp) (h:Heap) (a:Addr):HO→Prop
 | .lst xs=>xs.length≤sizeLine∧∃(its:List Value) (n:Nat),Vals xs its∧h.get? a=some {cls:= .type "list",data:= .seq its.toArray n}
 | .tup xs=>xs.length≤sizeLine∧∃its:List Value,Vals xs its∧TupX h a its.toArray
 | .dK kvs=>kvs.length≤sizeLine∧(a==sysModules)=false∧∃vs,KV kvs vs∧h.DictOf (ce P w) a vs
 | .dT kvs=>kvs.length≤sizeLine∧(a==sysModules)=false∧∃xs:List (List bJ×Addr×Value),
   Paired (fun(p:List bJ×V) (q:List bJ×Addr×Value)=>p.1=q.1∧H q.2.1=some (.tup (p.1.map kV))∧RelV p.2 q.2.2) kvs xs∧
   ∃o es ep,h.get? a=some o∧o.ExactDict∧o.data= .dict es ep∧es.toList=xs.map (entryOfKey (tupleKind (ce P w)))∧(xs.map (·.1)).Nodup
 | .set S n=>h.SetOf (intKind P w) a S n
 | .ins C dx fs=>H dx=some (.own a)∧fs.length≤1000∧dx≠a∧h.get? a=some (PySem.W.instObj C dx)∧
   ∃mA,h.Ns1 dx mA∧(∀f,RelO (fs.lookup f) (mA f))∧PySem.Within mA (fs.map (·.1))
 | .own _=>∃o,h.get? a=some o
 | .xd fs=>∃mA,h.Ns1 a mA∧∀f,RelO (fs.lookup f) (mA f)
 | .rng lo hi=>∃t u v,h.get? a=some {cls:= .type "range",data:= .fields #[.int lo t,.int hi u,.int 1 v]}
 | .frz o u=>h.get? a=some o∧ObjOk H h a u
 | .tbl ps=>h.get? a=some {cls:= .none,data:= .fields ps}
 | .met f x=>h.get? a=some (PySem.W.methodObj (.ref f) (.ref x))
 | .ext φ=>φ h∧(∃o,h.get? a=some o)∧∀h1 h2:Heap,φ h1→(∀o,h1.get? a=some o→h2.get? a=some o)→φ h2
def HOk (H:Hp) (h:Heap):Prop:=∀a o,H a=some o→ObjOk P w H h a o
end
section
variable {P:Program} {w:World} {H H':Hp} {h h':Heap} {a:Addr} {o:HO}
theorem ObjOk.lt (x:ObjOk P w H h a o):a<h.objs.size:=by
 cases o with
 |lst xs=>obtain⟨_,_,_,_,e⟩:=x;exact Heap.lt_size e
 |tup xs=>obtain⟨_,_,_,p⟩:=x;exact p.lt
 |dK kvs=>obtain⟨_,_,_,_,o,_,_,e,_⟩:=x;exact Heap.lt_size e
 |dT kvs=>obtain⟨_,_,_,_,o,_,_,e,_⟩:=x;exact Heap.lt_size e
 |set S n=>obtain⟨o,_,_,_,e,_⟩:=x;exact Heap.lt_size e
 |ins C dx fs=>obtain⟨_,_,_,e,_⟩:=x;exact Heap.lt_size e
 |own y=>obtain⟨_,e⟩:=x;exact Heap.lt_size e
 |xd fs=>obtain⟨_,⟨_,_,_,e,_⟩,_⟩:=x;exact Heap.lt_size e
 |rng lo hi=>obtain⟨_,_,_,e⟩:=x;exact Heap.lt_size e
 |frz ob u=>obtain⟨e,_⟩:=x;exact Heap.lt_size e
 |tbl ps=>exact Heap.lt_size (show h.get? a=some _ from x)
 |met f y=>exact Heap.lt_size (show h.get? a=some _ from x)
 |ext φ=>obtain⟨_,⟨_,e⟩,_⟩:=x;exact Heap.lt_size e
theorem Paired.mapP {α β:Type} {F G:α→β→Prop}:∀{l₁:List α} {l₂:List β},Paired F l₁ l₂→(∀a b,F a b→G a b)→Paired G l₁ l₂
 |_,_,.nil,_=> .nil
 |_,_,.cons r t,f=> .cons (f _ _ r) (Paired.mapP t f)
theorem ObjOk.stay (x:ObjOk P w H h a o) (k:∀b u,(b=a∨H b=some (.own a))→h.get? b=some u→h'.get? b=some u)
  (ho:∀b,H b=some (.own a)→H' b=some (.own a)) (ht:∀b xs,H b=some (.tup xs)→H' b=some (.tup xs)):ObjOk P w H' h' a o:=by
 induction o with
 |lst xs=>obtain⟨z,its,n,r,e⟩:=x;exact⟨z,its,n,r,k _ _ (.inl rfl) e⟩
 |tup xs=>obtain⟨z,its,r,ob,e,c⟩:=x;exact⟨z,its,r,ob,k _ _ (.inl rfl) e,c⟩
 |dK kvs=>obtain⟨z,y,vs,r,ob,es,ep,e,c⟩:=x;exact⟨z,y,vs,r,ob,es,ep,k _ _ (.inl rfl) e,c⟩
 |dT kvs=>
  obtain⟨z,y,xs,r,ob,es,ep,e,c⟩:=x
  exact⟨z,y,xs,Paired.mapP r fun p q z=>⟨z.1,ht _ _ z.2.1,z.2.2⟩,ob,es,ep,k _ _ (.inl rfl) e,c⟩
 |set S n=>obtain⟨ob,es,ep,t,e,c⟩:=x;exact⟨ob,es,ep,t,k _ _ (.inl rfl) e,c⟩
 |ins C dx fs=>
  obtain⟨d,z,ne,e,mA,⟨od,es,ep,e2,c⟩,r⟩:=x
  exact⟨ho _ d,z,ne,k _ _ (.inl rfl) e,mA,⟨od,es,ep,k _ _ (.inr d) e2,c⟩,r⟩
 |own y=>obtain⟨ob,e⟩:=x;exact⟨ob,k _ _ (.inl rfl) e⟩
 |xd fs=>obtain⟨mA,⟨od,es,ep,e,c⟩,r⟩:=x;exact⟨mA,⟨od,es,ep,k _ _ (.inl rfl) e,c⟩,r⟩
 |rng lo hi=>obtain⟨t,u,v,e⟩:=x;exact⟨t,u,v,k _ _ (.inl rfl) e⟩
 |frz ob u ih=>obtain⟨e,q⟩:=x;exact⟨k _ _ (.inl rfl) e,ih q⟩
 |tbl ps=>
  have e:h.get? a=some {cls:= .none,data:= .fields ps}:=x
  show h'.get? a=some {cls:= .none,data:= .fields ps}
  exact k a _ (.inl rfl) e
 |met f y=>
  have e:h.get? a=some (PySem.W.methodObj (.ref f) (.ref y)):=x
  show h'.get? a=some (PySem.W.methodObj (.ref f) (.ref y))
  exact k a _ (.inl rfl) e
 |ext φ=>obtain⟨p,⟨o,e⟩,st⟩:=x;exact⟨st _ _ p fun o q=>k _ _ (.inl rfl) q,⟨o,k _ _ (.inl rfl) e⟩,st⟩
theorem HOk.lt (x:HOk P w H h) (e:H a=some o):a<h.objs.size:=(x a o e).lt
theorem HOk.fresh (x:HOk P w H h) (e:h.objs.size≤a):H a=none:=by
 cases q:H a with
 |none=>rfl
 |some u=>exact absurd (Nat.lt_of_lt_of_le (x.lt q) e) (Nat.lt_irrefl _)
theorem HOk.kept (x:HOk P w H h) (k:∀b u,h.get? b=some u→h'.get? b=some u):HOk P w H h':=fun a o e=>
 (x a o e).stay (fun b u _ q=>k b u q) (fun _ q=>q) fun _ _ q=>q
theorem HOk.laid (x:HOk P w H h) (k:∀b u,h.get? b=some u→h'.get? b=some u) (hp:h.objs.size≤a) (new:ObjOk P w (bL H a o) h' a o):HOk P w (bL H a o) h':=fun b u e=>by
 have hn:=x.fresh hp
 by_cases hb:b=a
 ·subst hb;rw[aO] at e;cases e;exact new
 ·rw[aX hb] at e
  exact(x b u e).stay (fun c v _ q=>k c v q) (fun c q=>by rw[aX (cj q hn)];exact q) fun c xs q=>by rw[aX (cj q hn)];exact q
end
def Rd (H:Hp) (a:Addr) (u:HO):Prop:=H a=some u∨∃o,H a=some (.frz o u)
theorem Rd.ok {P:Program} {w:World} {H:Hp} {h:Heap} {a:Addr} {u:HO} (r:Rd H a u) (x:HOk P w H h):ObjOk P w H h a u:=by
 rcases r with r|⟨o,r⟩
 ·exact x a u r
 ·obtain⟨_,q⟩:=x a _ r
  exact q
def Gu:Option HO→Prop
 |some (.lst _)=>True
 |some (.dK _)=>True
 |some (.dT _)=>True
 |some (.set _ _)=>True
 |some (.ins _ _ _)=>True
 |some (.ext _)=>True
 |_=>False
section
variable {P:Program} {w:World} {H:Hp} {h h':Heap} {x e:Addr} {o':HO}
theorem HOk.write (ok:HOk P w H h) (mu:Gu (H x)) (he:e=x∨H e=some (.own x)) (k:∀b u,b≠e→h.get? b=some u→h'.get? b=some u) (heo:∃u,h'.get? e=some u)
  (new:ObjOk P w (bL H x o') h' x o'):HOk P w (bL H x o') h':=fun b u q=>by
 have nown:∀c y,H c=some (.own y)→c≠x:=fun c y r z=>by subst z;rw[r] at mu;exact mu
 have ntup:∀c xs,H c=some (.tup xs)→c≠x:=fun c xs r z=>by subst z;rw[r] at mu;exact mu
 by_cases hb:b=x
 ·subst hb;rw[aO] at q;cases q;exact new
 ·rw[aX hb] at q
  by_cases hbe:b=e
  ·have q':H b=some (.own x):=by
    rcases he with z|z
    ·exact absurd (hbe.trans z) hb
    ·rw[hbe];exact z
   rw[q] at q';cases q'
   obtain⟨v,hv⟩:=heo
   exact⟨v,by rw[hbe];exact hv⟩
  ·refine(ok b u q).stay (fun c v hc r=>k c v ?_ r) (fun c r=>by rw[aX (nown c b r)];exact r) fun c xs r=>by rw[aX (ntup c xs r)];exact r
   rcases hc with rfl|hc
   ·exact hbe
   ·rintro rfl
    rcases he with z|z
    ·exact nown c b hc z
    ·rw[hc] at z;cases z;exact hb rfl
end
structure Un (fs ex:List Addr) (H H':Hp) (h h':Heap):Prop where
 keep:∀b o,h.get? b=some o→H b=none→b∉fs→b∉ex→h'.get? b=some o
 slot:∀b o,h.get? b=some o→H b=none→b∈fs→b∉ex→∃sl,h'.get? b=some {o with slots:=sl}
 free:∀b o,h.get? b=some o→H b=none→b∉ex→H' b=none
 there:∀b o,h.get? b=some o→b∉ex→∃o',h'.get? b=some o'
 tups:∀b xs,H b=some (.tup xs)→H' b=some (.tup xs)
 frzs:∀b o u,H b=some (.frz o u)→H' b=some (.frz o u)
 tbls:∀b ps,H b=some (.tbl ps)→∃more,H' b=some (.tbl (ps++more))
section
variable {fs fs' ex ex':List Addr} {H H1 H2:Hp} {h h1 h2 h':Heap} {a x e:Addr} {o:HO}
theorem Un.any (u:Un fs ex H H1 h h1) {b:Addr} {ob:Obj} (q:h.get? b=some ob) (n:H b=none) (hx:b∉ex):∃sl,h1.get? b=some {ob with slots:=sl}:=by
 by_cases hb:b∈fs
 ·exact u.slot b ob q n hb hx
 ·exact⟨ob.slots,u.keep b ob q n hb hx⟩
theorem Un.kept (k:∀b u,h.get? b=some u→h'.get? b=some u):Un fs ex H H h h':=
 ⟨fun b ob q _ _ _=>k b ob q,fun b ob q _ _ _=>⟨ob.slots,k b ob q⟩,fun _ _ _ n _=>n,fun b ob q _=>⟨ob,k b ob q⟩,fun _ _ q=>q,fun _ _ _ q=>q,fun _ ps q=>⟨#[],by rw[q];simp⟩⟩
theorem Un.refl:Un fs ex H H h h:=Un.kept fun _ _ q=>q
theorem Un.laid (k:∀b u,h.get? b=some u→h'.get? b=some u) (hp:h.objs.size≤a) (hn:H a=none):Un fs ex H (bL H a o) h h' where
 keep:=fun b u q _ _ _=>k b u q
 slot:=fun b u q _ _ _=>⟨u.slots,k b u q⟩
 free:=fun b u q n _=>by rw[aX (Nat.ne_of_lt (Nat.lt_of_lt_of_le (Heap.lt_size q) hp))];exact n
 there:=fun b u q _=>⟨u,k b u q⟩
 tups:=fun b xs q=>by rw[aX (cj q hn)];exact q
 frzs:=fun b u xs q=>by rw[aX (cj q hn)];exact q
 tbls:=fun b ps q=>⟨#[],by rw[aX (cj q hn),q];simp⟩
theorem Un.write (mu:Gu (H x)) (he:e=x∨H e=some (.own x)) (k:∀b u,b≠e→h.get? b=some u→h'.get? b=some u) (heo:∃u,h'.get? e=some u):Un fs ex H (bL H x o) h h':=by
 have hx:∀b,H b=none→b≠x:=fun b n z=>by subst z;rw[n] at mu;exact mu
 have hb:∀b,H b=none→b≠e:=fun b n z=>by
  subst z
  rcases he with r|r
  ·exact hx b n r
  ·rw[n] at r;cases r
 have hm:∀b u,H b=some u→¬Gu (some u)→b≠x:=fun b u q nm z=>by subst z;rw[q] at mu;exact nm mu
 refine⟨fun b u q n _ _=>k b u (hb b n) q,fun b u q n _ _=>⟨u.slots,k b u (hb b n) q⟩,fun b u q n _=>by rw[aX (hx b n)];exact n,fun b u q _=> ?_,
  fun b xs q=>by rw[aX (hm b _ q fun z=>z)];exact q,fun b u xs q=>by rw[aX (hm b _ q fun z=>z)];exact q,fun b ps q=>⟨#[],by rw[aX (hm b _ q fun z=>z),q];simp⟩⟩
 by_cases hbe:b=e
 ·subst hbe;exact heo
 ·exact⟨u,k b u hbe q⟩
end
noncomputable def Hn (h:Heap) (H:Hp):List Addr:=(List.range h.objs.size).filter fun a=>(H a).isSome
noncomputable def rB (h:Heap) (H:Hp):Heap:=PySem.W.hideAll h (Hn h H)
theorem yS (h:Heap) (H:Hp):(rB h H).objs.size=h.objs.size:=PySem.W.hideAll_size _ _
theorem zK {h:Heap} {H:Hp} {b:Addr} {o:Obj} (e:h.get? b=some o) (n:H b=none):(rB h H).get? b=some o:=
 PySem.W.hideAll_get _ e fun hm=>by
  have q:(H b).isSome=true:=(List.mem_filter.mp hm).2
  rw[n] at q;simp at q
theorem BX {h:Heap} {H:Hp} {b:Addr} {o:Obj} (e:(rB h H).get? b=some o):h.get? b=some o∧H b=none:=by
 have e':h.get? b=some o:=PySem.W.of_hideAll (Hn h H) e
 refine⟨e',?_⟩
 cases q:H b with
 |none=>rfl
 |some x=>
  have hm:b∈Hn h H:=List.mem_filter.mpr ⟨List.mem_range.mpr (Heap.lt_size e'),by simp[q]⟩
  have z:(rB h H).get? b=none:=PySem.W.hideAll_none (Hn h H) hm
  rw[z] at e;cases e
end L2
namespace L2
open PySem PySem.Spec PyProof.Rows
structure Mod (K:PySem.W.Frag) (mg:Str→Option Value) (base:Heap):Prop where
 kin:K.In base
 glob:base.Ns mainGlobals mg
 blt:∃mb,base.Ns builtinsNs mb∧∀x:Str,x≠ "__name__"→mb x=bootBuiltins x
 nolimit:base.NoLimit
structure Cx where
 prog:Program
 w:World
 K:PySem.W.Frag
 mg:Str→Option Value
 base:Heap
 A:Around
 N:List Str
 s₀:Shared
 H₀:Hp
 env:Env
 outer:List Env
 stack:List Env
 ex:List Addr
 fn:Str→Bool
 calm:Bool
 pn:List (Addr×Obj)
 xe:Value→Shared→Prop
noncomputable def zh (l:List Env):List Addr:=l.filterMap (·.frame)
noncomputable abbrev Cx.fs (X:Cx):List Addr:=zh X.outer
def HK (sc:Scope) (x:Str):Prop:=sc.names.lookup x=some .local∨sc.names.lookup x=some .cell∨sc.names.lookup x=some .free
def Hd (sc:Scope) (x:Str):Prop:=sc.names.lookup x=some .local∨sc.names.lookup x=some .cell
def HD (env:Env) (h:Heap) (m:Str→Option Value) (x:Str) (u:Value):Prop:=
 (env.kindOf x=some .local∧m x=some u)∨((env.kindOf x=some .cell∨env.kindOf x=some .free)∧∃c,env.cells.lookup x=some c∧h.IsCell c (some u))
structure Cx.Ok (X:Cx):Prop where
 mod:Mod X.K X.mg X.base
 kind:X.env.scope.kind= .function
 glob:X.env.globals=mainGlobals
 blt:X.env.builtins=builtinsNs
 above:X.s₀.heap.objs.size≤X.env.locals
 inj:∀x y c,X.env.cells.lookup x=some c→X.env.cells.lookup y=some c→x=y
 has:∀x,(X.env.kindOf x=some .cell∨X.env.kindOf x=some .free)→∃c,X.env.cells.lookup x=some c
 cab:∀x c,X.fn x=true→X.env.cells.lookup x=some c→X.s₀.heap.objs.size≤c
 hd:X.calm=true→X.A.handled=none
 frames:X.A.frames=some X.stack
 stk:X.stack=X.outer∨(X.stack=X.env::X.outer∧X.env.frame=some X.env.locals)
 exf:∀b∈X.ex,b≠X.env.locals∧∀x c,X.env.cells.lookup x=some c→c≠b
 bs:∀b o,X.base.get? b=some o→X.s₀.heap.get? b=some o∧X.H₀ b=none
 bsz:X.base.objs.size≤X.s₀.heap.objs.size
 noex:∀b o,X.base.get? b=some o→b∉X.ex
 exfs:∀b∈X.ex,b∉X.fs
 funs:X.s₀.heap.FunFrames X.base X.outer
 frf:∀b∈X.fs,X.H₀ b=none
structure Inv (X:Cx) (pins:List (Addr×Obj)) (σ:List (Option V)) (H:Hp) (s:Shared):Prop where
 ok:X.Ok
 os:s.os=X.s₀.os
 bare:AllBare s.gens
 base:Un X.fs X.ex X.H₀ H X.s₀.heap s.heap
 loc:∃m,s.heap.Ns X.env.locals m∧∀(i:Nat) (x:Str) (v:V),X.N[i]? =some x→σ[i]? =some (some v)→HK X.env.scope x→∃u,RelV v u∧HD X.env s.heap m x u
 cell:∀x c,X.env.cells.lookup x=some c→∃v,s.heap.IsCell c v
 free:H X.env.locals=none
 freeC:∀x c,X.env.cells.lookup x=some c→H c=none
 pin:∀p∈X.pn++pins,s.heap.get? p.1=some p.2∧H p.1=none∧p.1≠X.env.locals∧p.1∉X.fs∧∀v,p.2.data≠ .cell v
 hok:HOk X.prog X.w H s.heap
 len:σ.length=X.N.length
section
variable {X:Cx} {pins:List (Addr×Obj)} {σ:List (Option V)} {H H':Hp} {s:Shared} {h':Heap}
theorem Cx.Ok.nofr (ok:X.Ok) {b:Addr} {o:Obj} (e:X.base.get? b=some o):b∉X.fs:=fun hb=>by
 have:=(ok.funs.mem hb).1
 rw[e] at this;cases this
theorem Inv.bs (I:Inv X pins σ H s):∀b o,X.base.get? b=some o→s.heap.get? b=some o∧H b=none:=fun b o e=>
 ⟨I.base.keep b o (I.ok.bs b o e).1 (I.ok.bs b o e).2 (I.ok.nofr e) (I.ok.noex b o e),I.base.free b o (I.ok.bs b o e).1 (I.ok.bs b o e).2 (I.ok.noex b o e)⟩
theorem Inv.bk (I:Inv X pins σ H s):∀b o,X.base.get? b=some o→s.heap.get? b=some o:=fun b o e=>(I.bs b o e).1
theorem Inv.mod (I:Inv X pins σ H s):Mod X.K X.mg X.base:=I.ok.mod
theorem Inv.kIn (I:Inv X pins σ H s):X.K.In s.heap:=I.ok.mod.kin.keeps I.bk
theorem Inv.lt (I:Inv X pins σ H s):X.env.locals<s.heap.objs.size:=let⟨_,hn,_⟩:=I.loc;hn.lt
theorem Inv.sz (I:Inv X pins σ H s):X.s₀.heap.objs.size≤s.heap.objs.size:=Nat.le_trans I.ok.above (Nat.le_of_lt I.lt)
theorem Inv.nofs (I:Inv X pins σ H s) {a:Addr} (h:s.heap.objs.size≤a):a∉X.fs:=fun hb=>by
 obtain⟨_,o,ho,_⟩:=I.ok.funs.mem hb
 exact absurd (Nat.lt_of_lt_of_le (Heap.lt_size ho) (Nat.le_trans I.sz h)) (Nat.lt_irrefl _)
theorem Inv.cne (I:Inv X pins σ H s):∀x c,X.env.cells.lookup x=some c→c≠X.env.locals:=fun x c e z=>by
 obtain⟨v,o,ho,hd⟩:=I.cell x c e
 obtain⟨m,⟨o',es,ep,ho',hd',_⟩,_⟩:=I.loc
 rw[z,ho'] at ho;cases ho;rw[hd'] at hd;cases hd
theorem Inv.funs (I:Inv X pins σ H s):s.heap.FunFrames X.base X.outer:=by
 have all:∀(l:List Env),(∀b∈zh l,b∈X.fs)→X.s₀.heap.FunFrames X.base l→s.heap.FunFrames X.base l:=by
  intro l
  induction l with
  |nil=>intro _ _;trivial
  |cons env r ih=>
   intro hs hl
   obtain⟨hk,⟨L,o,hf,hn,ho,hd⟩,hr⟩:=hl
   have hL:L∈X.fs:=hs L (by unfold zh;rw[List.filterMap_cons,hf];exact List.mem_cons_self)
   obtain⟨sl,e⟩:=I.base.slot L o ho (I.ok.frf L hL) hL fun z=>I.ok.exfs L z hL
   exact⟨hk,⟨L,_,hf,hn,e,hd⟩,ih (fun b hb=>hs b (by unfold zh;rw[List.filterMap_cons,hf];exact List.mem_cons_of_mem _ hb)) hr⟩
 exact all X.outer (fun _ hb=>hb) I.ok.funs
theorem Inv.stack (I:Inv X pins σ H s):s.heap.FunFrames X.base X.stack:=by
 rcases I.ok.stk with e|⟨e,hf⟩
 ·rw[e];exact I.funs
 ·rw[e]
  obtain⟨m,hn,_⟩:=I.loc
  refine .cons (by rw[I.ok.kind];decide) hf hn ?_ I.funs
  exact Heap.get?_none_of_le (Nat.le_trans I.ok.bsz I.ok.above)
theorem Inv.stkSub (I:Inv X pins σ H s):∀b∈zh X.stack,b∈X.env.locals::X.fs:=fun b hb=>by
 rcases I.ok.stk with e|⟨e,hf⟩
 ·rw[e] at hb;exact List.mem_cons_of_mem _ hb
 ·rw[e] at hb
  unfold zh at hb
  rw[List.filterMap_cons,hf] at hb
  exact hb
theorem Inv.stkFree (I:Inv X pins σ H s):∀b∈zh X.stack,H b=none:=fun b hb=>by
 rcases List.mem_cons.mp (I.stkSub b hb) with e|hb
 ·rw[e];exact I.free
 ·obtain⟨_,o,ho,_⟩:=I.ok.funs.mem hb
  exact I.base.free b o ho (I.ok.frf b hb) fun z=>I.ok.exfs b z hb
theorem Inv.step {g':Array GenState} {t':Nat} {d':Drawn} {ch:List Addr} (I:Inv X pins σ H s)
  (hch:∀b∈ch,(b∈X.ex∨X.s₀.heap.objs.size≤b)∧b≠X.env.locals∧(∀x c,X.env.cells.lookup x=some c→c≠b)∧∀p∈X.pn++pins,p.1≠b)
  (keep:∀b o,b≠X.env.locals→b∉X.fs→b∉ch→s.heap.get? b=some o→H b=none→h'.get? b=some o)
  (slot:∀b o,b≠X.env.locals→b∈X.fs→b∉ch→s.heap.get? b=some o→H b=none→∃sl,h'.get? b=some {o with slots:=sl}) (free:∀b o,b∉ch→s.heap.get? b=some o→H b=none→H' b=none)
  (there:∀b o,b∉ch→s.heap.get? b=some o→∃o',h'.get? b=some o')
  (tups:∀b xs,H b=some (.tup xs)→H' b=some (.tup xs)) (frzs:∀b o u,H b=some (.frz o u)→H' b=some (.frz o u)) (tbls:∀b ps,H b=some (.tbl ps)→∃more,H' b=some (.tbl (ps++more)))
  (ns:∀m,s.heap.Ns X.env.locals m→h'.Ns X.env.locals m) (hok:HOk X.prog X.w H' h') (hg:AllBare g'):
  Inv X pins σ H' {s with heap:=h',gens:=g',drawn:=d',toks:=t'}:=by
 have neL:∀b o,X.s₀.heap.get? b=some o→b≠X.env.locals:=fun b o e=>Nat.ne_of_lt (Nat.lt_of_lt_of_le (Heap.lt_size e) I.ok.above)
 have neC:∀b o,X.s₀.heap.get? b=some o→b∉X.ex→b∉ch:=fun b o e hx hb=>by
  rcases(hch b hb).1 with z|z
  ·exact hx z
  ·exact absurd (Nat.lt_of_lt_of_le (Heap.lt_size e) z) (Nat.lt_irrefl _)
 have cellK:∀x c,X.env.cells.lookup x=some c→∀v,s.heap.IsCell c v→h'.IsCell c v:=fun x c e v ⟨o,ho,hd⟩=>by
  have nch:c∉ch:=fun z=>(hch c z).2.2.1 x c e rfl
  by_cases hc:c∈X.fs
  ·obtain⟨sl,q⟩:=slot c o (I.cne x c e) hc nch ho (I.freeC x c e)
   exact⟨_,q,hd⟩
  ·exact⟨o,keep c o (I.cne x c e) hc nch ho (I.freeC x c e),hd⟩
 refine⟨I.ok,I.os,hg,⟨fun b o e n hb hx=> ?_,fun b o e n hb hx=> ?_,fun b o e n hx=> ?_,fun b o e hx=> ?_,fun b xs e=>tups b xs (I.base.tups b xs e),fun b o xs e=>frzs b o xs (I.base.frzs b o xs e),fun b ps e=> ?_⟩,?_,fun x c e=> ?_,?_,fun x c e=> ?_,fun p hp=> ?_,hok,I.len⟩
 ·exact keep b o (neL b o e) hb (neC b o e hx) (I.base.keep b o e n hb hx) (I.base.free b o e n hx)
 ·obtain⟨sl,e1⟩:=I.base.slot b o e n hb hx
  obtain⟨sl',e2⟩:=slot b _ (neL b o e) hb (neC b o e hx) e1 (I.base.free b o e n hx)
  exact⟨sl',e2⟩
 ·obtain⟨o',e1⟩:=I.base.there b o e hx
  exact free b o' (neC b o e hx) e1 (I.base.free b o e n hx)
 ·obtain⟨o',e1⟩:=I.base.there b o e hx
  exact there b o' (neC b o e hx) e1
 ·obtain⟨m1,e1⟩:=I.base.tbls b ps e
  obtain⟨m2,e2⟩:=tbls b _ e1
  exact⟨m1++m2,by rw[e2,Array.append_assoc]⟩
 ·obtain⟨m,hn,hl⟩:=I.loc
  refine⟨m,ns m hn,fun i x v e1 e2 e3=> ?_⟩
  obtain⟨u,r,l⟩:=hl i x v e1 e2 e3
  refine⟨u,r,?_⟩
  rcases l with l|⟨k,c,e,z⟩
  ·exact .inl l
  ·exact .inr ⟨k,c,e,cellK x c e _ z⟩
 ·obtain⟨v,z⟩:=I.cell x c e
  exact⟨v,cellK x c e v z⟩
 ·obtain⟨m,⟨o,_,_,ho,_⟩,_⟩:=I.loc
  exact free _ o (fun z=>(hch _ z).2.1 rfl) ho I.free
 ·obtain⟨v,o,ho,hd⟩:=I.cell x c e
  exact free c o (fun z=>(hch c z).2.2.1 x c e rfl) ho (I.freeC x c e)
 ·obtain⟨e,n,ne,nf,d⟩:=I.pin p hp
  have nch:p.1∉ch:=fun z=>(hch p.1 z).2.2.2 p hp rfl
  exact⟨keep p.1 p.2 ne nf nch e n,free p.1 p.2 nch e n,ne,nf,d⟩
theorem Inv.un {t':Nat} (I:Inv X pins σ H s) (u:Un X.fs [] H H' s.heap h') (hok:HOk X.prog X.w H' h'):Inv X pins σ H' {s with heap:=h',toks:=t'}:=by
 obtain⟨m,⟨o,es,ep,ho,r⟩,_⟩:=id I.loc
 obtain⟨sl,hL⟩:=u.any ho I.free (by simp)
 exact I.step (g':=s.gens) (d':=s.drawn) (ch:=[]) (fun _ z=>nomatch z) (fun b o _ hb _ e n=>u.keep b o e n hb (by simp)) (fun b o _ hb _ e n=>u.slot b o e n hb (by simp)) (fun b o _ e n=>u.free b o e n (by simp)) (fun b o _ e=>u.there b o e (by simp)) u.tups u.frzs u.tbls (fun m' hm=>by
  obtain⟨o',es',ep',ho',r'⟩:=hm
  rw[ho] at ho';cases ho'
  exact⟨_,es',ep',hL,r'⟩) hok I.bare
theorem Inv.call {g':Array GenState} {t':Nat} {d':Drawn} {ch:List Addr} (I:Inv X pins σ H s) (u:Un (zh X.stack) ch H H' s.heap h') (hok:HOk X.prog X.w H' h') (hg:AllBare g')
  (hch:∀b∈ch,(b∈X.ex∨X.s₀.heap.objs.size≤b)∧b≠X.env.locals∧(∀x c,X.env.cells.lookup x=some c→c≠b)∧∀p∈X.pn++pins,p.1≠b):
  Inv X pins σ H' {s with heap:=h',gens:=g',drawn:=d',toks:=t'}:=by
 obtain⟨m,⟨o,es,ep,ho,r⟩,_⟩:=id I.loc
 obtain⟨sl,hL⟩:=u.any ho I.free fun z=>(hch _ z).2.1 rfl
 exact I.step (ch:=ch) hch (fun b o hL hb hc e n=>u.keep b o e n (fun z=>(List.mem_cons.mp (I.stkSub b z)).elim hL hb) hc) (fun b o _ _ hc e n=>u.any e n hc) (fun b o hc e n=>u.free b o e n hc) (fun b o hc e=>u.there b o e hc) u.tups u.frzs u.tbls (fun m' hm=>by
  obtain⟨o',es',ep',ho',r'⟩:=hm
  rw[ho] at ho';cases ho'
  exact⟨_,es',ep',hL,r'⟩) hok hg
theorem Inv.turned {t':Nat} {it:Addr} (I:Inv X pins σ H s) (k:∀b o,b≠it→s.heap.get? b=some o→h'.get? b=some o) (hn:H it=none) (hL:it≠X.env.locals)
  (h1:it∈X.ex∨X.s₀.heap.objs.size≤it) (h2:∀x c,X.env.cells.lookup x=some c→c≠it) (h3:∀p∈X.pn++pins,p.1≠it):Inv X pins σ H {s with heap:=h',toks:=t'}:=by
 have nit:∀b u,H b=some u→b≠it:=fun b u e z=>by rw[z,hn] at e;cases e
 refine I.step (g':=s.gens) (d':=s.drawn) (ch:=[it]) (fun b hb=> ?_) (fun b o _ _ hc e _=>k b o (fun z=>hc (by simp[z])) e) (fun b o _ _ hc e _=>⟨o.slots,k b o (fun z=>hc (by simp[z])) e⟩) (fun _ _ _ _ n=>n)
  (fun b o hc e=>⟨o,k b o (fun z=>hc (by simp[z])) e⟩) (fun _ _ e=>e) (fun _ _ _ e=>e) (fun b ps e=>⟨#[],by rw[e];simp⟩) (fun m hm=> ?_) (fun b u e=> ?_) I.bare
 ·have e:b=it:=by simpa using hb
  subst e
  exact⟨h1,hL,h2,h3⟩
 ·obtain⟨o,es,ep,ho,r⟩:=hm
  exact⟨o,es,ep,k _ o (Ne.symm hL) ho,r⟩
 ·refine(I.hok b u e).stay (fun c v hc q=>k c v ?_ q) (fun _ q=>q) fun _ _ q=>q
  rcases hc with z|z
  ·rw[z];exact nit b u e
  ·exact nit c _ z
theorem Inv.tok (I:Inv X pins σ H s) (t:Nat):Inv X pins σ H {s with toks:=t}:=I.un (h':=s.heap) (t':=t) Un.refl I.hok
theorem Inv.kept {t':Nat} (I:Inv X pins σ H s) (k:∀b u,s.heap.get? b=some u→h'.get? b=some u):Inv X pins σ H {s with heap:=h',toks:=t'}:=I.un (Un.kept k) (I.hok.kept k)
theorem Inv.laid {a:Addr} {o:HO} {t':Nat} (I:Inv X pins σ H s) (k:∀b u,s.heap.get? b=some u→h'.get? b=some u) (hp:s.heap.objs.size≤a) (new:ObjOk X.prog X.w (bL H a o) h' a o):
  Inv X pins σ (bL H a o) {s with heap:=h',toks:=t'}:=I.un (Un.laid k hp (I.hok.fresh hp)) (I.hok.laid k hp new)
theorem Inv.write {x e:Addr} {o:HO} {t':Nat} (I:Inv X pins σ H s) (mu:Gu (H x)) (he:e=x∨H e=some (.own x)) (k:∀b u,b≠e→s.heap.get? b=some u→h'.get? b=some u) (heo:∃u,h'.get? e=some u)
  (new:ObjOk X.prog X.w (bL H x o) h' x o):Inv X pins σ (bL H x o) {s with heap:=h',toks:=t'}:=I.un (Un.write mu he k heo) (I.hok.write mu he k heo new)
theorem Inv.pins_of {pins':List (Addr×Obj)} (I:Inv X pins σ H s) (h:∀p∈pins',s.heap.get? p.1=some p.2∧H p.1=none∧p.1≠X.env.locals∧p.1∉X.fs∧∀v,p.2.data≠ .cell v):Inv X pins' σ H s:=
 ⟨I.ok,I.os,I.bare,I.base,I.loc,I.cell,I.free,I.freeC,fun p hp=>(List.mem_append.mp hp).elim (fun z=>I.pin p (List.mem_append_left _ z)) (h p),I.hok,I.len⟩
theorem uq {N:List Str} (hN:N.Nodup) {i j:Nat} {x:Str} (a:N[i]? =some x) (b:N[j]? =some x):i=j:=by
 obtain⟨h1,e1⟩:=List.getElem?_eq_some_iff.mp a
 obtain⟨h2,e2⟩:=List.getElem?_eq_some_iff.mp b
 exact(List.getElem_inj hN).mp (e1.trans e2.symm)
theorem qZ {M:Model} {A:Around} {E:Value→Shared→Prop} {i:Nat} {x:Str} {v:V} {u:Value} {Q:Unit→Shared→Prop} (I:Inv X pins σ H s) (hN:X.N.Nodup) (hi:X.N[i]? =some x) (hx:Hd X.env.scope x) (r:RelV v u)
  (h:∀s',Inv X pins (σ.set i (some v)) H s'→(∃a,Heap.SameBut a s.heap s'.heap∧(a=X.env.locals∨X.env.cells.lookup x=some a))→Q () s') (hf:X.fn x=true∨X.env.scope.names.lookup x=some .local:=by first|exact .inl rfl|exact .inr rfl|assumption):wpAny M A (storeName X.env x u) Q E s:=by
 obtain⟨m,hn,hl⟩:=id I.loc
 have hcls:(X.env.scope.kind== .class||(X.env.scope.kind== .module&&X.env.locals !=X.env.globals))=false:=by rw[I.ok.kind];rfl
 have hiσ:i<σ.length:=by rw[I.len];exact(List.getElem?_eq_some_iff.mp hi).1
 have cne:=I.cne
 have tracked:∀{a:Addr} {h':Heap},(∃o,s.heap.get? a=some o∧H a=none)→Heap.SameBut a s.heap h'→HOk X.prog X.w H h':=fun{a h'} ha hs b ob e=>by
  obtain⟨_,_,hfree⟩:=ha
  refine(I.hok b ob e).stay (fun c w' hc q=>(hs.2 c ?_).trans q) (fun _ q=>q) fun _ _ q=>q
  rintro rfl
  rcases hc with rfl|hc
  ·rw[hfree] at e;cases e
  ·rw[hfree] at hc;cases hc
 rcases hx with hk|hk
 ·refine wpAny_storeName_local hk hn (fun h' hn' hs=> ?_) hcls
  obtain⟨oL,_,_,hoL,_⟩:=id hn
  refine h _ ⟨I.ok,I.os,I.bare,⟨fun b o e n hb hx=> ?_,fun b o e n hb hx=> ?_,I.base.free,fun b o e hx=> ?_,I.base.tups,I.base.frzs,I.base.tbls⟩,⟨_,hn',fun j y v' e1 e2 e3=> ?_⟩,fun y c e=> ?_,I.free,I.freeC,fun p hp=> ?_,tracked ⟨oL,hoL,I.free⟩ hs,by simpa using I.len⟩ ⟨_,hs,.inl rfl⟩
  ·exact(hs.2 b (Nat.ne_of_lt (Nat.lt_of_lt_of_le (Heap.lt_size e) I.ok.above))).trans (I.base.keep b o e n hb hx)
  ·obtain⟨sl,e1⟩:=I.base.slot b o e n hb hx
   exact⟨sl,(hs.2 b (Nat.ne_of_lt (Nat.lt_of_lt_of_le (Heap.lt_size e) I.ok.above))).trans e1⟩
  ·obtain⟨o',e1⟩:=I.base.there b o e hx
   exact⟨o',(hs.2 b (Nat.ne_of_lt (Nat.lt_of_lt_of_le (Heap.lt_size e) I.ok.above))).trans e1⟩
  ·by_cases hj:j=i
   ·subst hj
    rw[hi] at e1;cases e1
    rw[List.getElem?_set_self hiσ] at e2
    cases e2
    exact⟨u,r,.inl ⟨hk,by simp⟩⟩
   ·rw[List.getElem?_set_ne (Ne.symm hj)] at e2
    obtain⟨u',r',q⟩:=hl j y v' e1 e2 e3
    refine⟨u',r',?_⟩
    rcases q with⟨k,e⟩|⟨k,c,e,z⟩
    ·refine .inl ⟨k,?_⟩
     have:y≠x:=fun e=>hj (uq hN e1 (e▸hi))
     simp[this,e]
    ·exact .inr ⟨k,c,e,z.sameBut hs (cne y c e)⟩
  ·obtain⟨w',z⟩:=I.cell y c e
   exact⟨w',z.sameBut hs (cne y c e)⟩
  ·obtain⟨e,n,ne,nf,d⟩:=I.pin p hp
   exact⟨(hs.2 p.1 ne).trans e,n,ne,nf,d⟩
 ·have hfn:X.fn x=true:=by
   rcases hf with z|z
   ·exact z
   ·rw[z] at hk;cases hk
  obtain⟨c,hc⟩:=I.ok.has x (.inl hk)
  obtain⟨w',z⟩:=I.cell x c hc
  refine wpAny_storeName_cell I.ok.kind hk hc z (fun h' hc' hs=> ?_)
  obtain⟨oc,hoc,hocd⟩:=id z
  refine h {s with heap:=h'} ⟨I.ok,I.os,I.bare,⟨fun b o e n hb hx=> ?_,fun b o e n hb hx=> ?_,I.base.free,fun b o e hx=> ?_,I.base.tups,I.base.frzs,I.base.tbls⟩,⟨m,hn.sameBut hs (Ne.symm (cne x c hc)),fun j y v' e1 e2 e3=> ?_⟩,fun y c' e=> ?_,I.free,I.freeC,fun p hp=> ?_,tracked ⟨oc,hoc,I.freeC x c hc⟩ hs,by simpa using I.len⟩ ⟨c,hs,.inr hc⟩
  ·exact(hs.2 b (Nat.ne_of_lt (Nat.lt_of_lt_of_le (Heap.lt_size e) (I.ok.cab x c hfn hc)))).trans (I.base.keep b o e n hb hx)
  ·obtain⟨sl,e1⟩:=I.base.slot b o e n hb hx
   exact⟨sl,(hs.2 b (Nat.ne_of_lt (Nat.lt_of_lt_of_le (Heap.lt_size e) (I.ok.cab x c hfn hc)))).trans e1⟩
  ·obtain⟨o',e1⟩:=I.base.there b o e hx
   exact⟨o',(hs.2 b (Nat.ne_of_lt (Nat.lt_of_lt_of_le (Heap.lt_size e) (I.ok.cab x c hfn hc)))).trans e1⟩
  ·by_cases hj:j=i
   ·subst hj
    rw[hi] at e1;cases e1
    rw[List.getElem?_set_self hiσ] at e2
    cases e2
    exact⟨u,r,.inr ⟨.inl hk,c,hc,hc'⟩⟩
   ·rw[List.getElem?_set_ne (Ne.symm hj)] at e2
    obtain⟨u',r',q⟩:=hl j y v' e1 e2 e3
    refine⟨u',r',?_⟩
    rcases q with q|⟨k,c',e,z'⟩
    ·exact .inl q
    ·refine .inr ⟨k,c',e,z'.sameBut hs ?_⟩
     rintro rfl
     exact hj (uq hN e1 (I.ok.inj _ _ _ e hc▸hi))
  ·by_cases hcc:c'=c
   ·subst hcc;exact⟨_,hc'⟩
   ·obtain⟨w2,z2⟩:=I.cell y c' e
    exact⟨w2,z2.sameBut hs hcc⟩
  ·obtain⟨e,n,ne,nf,d⟩:=I.pin p hp
   refine⟨(hs.2 p.1 ?_).trans e,n,ne,nf,d⟩
   intro q
   rw[q,hoc] at e
   have q':oc=p.2:=Option.some.inj e
   exact d w' (by rw[←q'];exact hocd)
theorem uH {M:Model} {A:Around} {E:Value→Shared→Prop} {i:Nat} {x:Str} {v:V} {u:Value} {Q:Unit→Shared→Prop} (I:Inv X pins σ H s) (hN:X.N.Nodup) (hi:X.N[i]? =some x) (hx:Hd X.env.scope x) (r:RelV v u)
  (h:∀s',Inv X pins (σ.set i (some v)) H s'→Q () s') (hf:X.fn x=true∨X.env.scope.names.lookup x=some .local:=by first|exact .inl rfl|exact .inr rfl|assumption):wpAny M A (storeName X.env x u) Q E s:=
 qZ I hN hi hx r (fun s' I' _=>h s' I') hf
theorem Inv.call' {s':Shared} {ch:List Addr} (I:Inv X pins σ H s) (ho:s'.os=s.os) (u:Un (zh X.stack) ch H H' s.heap s'.heap) (hok:HOk X.prog X.w H' s'.heap) (hg:AllBare s'.gens)
  (hch:∀b∈ch,(b∈X.ex∨X.s₀.heap.objs.size≤b)∧b≠X.env.locals∧(∀x c,X.env.cells.lookup x=some c→c≠b)∧∀p∈X.pn++pins,p.1≠b):Inv X pins σ H' s':=by
 obtain⟨h',g',d',t',o'⟩:=s'
 have e:o'=s.os:=ho
 subst e
 exact I.call (g':=g') (t':=t') (d':=d') u hok hg hch
end
abbrev XK:=Value→Option Addr→Hp→Prop
abbrev St:=List (Option V)
abbrev VK:=V→Hp→Prop
abbrev TE:=St→Hp→VK→Prop
abbrev TT:=St→Hp→(Bool→Hp→Prop)→Prop
abbrev TA:=St→Hp→(List V→Hp→Prop)→Prop
structure Ends where
 nx:St→Hp→Prop
 rt:VK
 bk:St→Hp→Prop:=fun _ _=>False
 ct:St→Hp→Prop:=fun _ _=>False
abbrev TS:=Ends→St→Hp→Prop
def EP (X:Cx) (pins:List (Addr×Obj)) (σ:St) (Q:VK) (u:Value) (s':Shared):Prop:=∃v H',Inv X pins σ H' s'∧RelV v u∧Q v H'
def TP (X:Cx) (pins:List (Addr×Obj)) (σ:St) (Q:Bool→Hp→Prop) (b:Bool) (s':Shared):Prop:=∃H',Inv X pins σ H' s'∧Q b H'
def AP (X:Cx) (pins:List (Addr×Obj)) (σ:St) (Q:List V→Hp→Prop) (us:List Value) (s':Shared):Prop:=∃vs H',Inv X pins σ H' s'∧Vals vs us∧Q vs H'
def SP (X:Cx) (pins:List (Addr×Obj)) (D:Ends) (f:Flow) (s':Shared):Prop:=
 match f with
 | .next=>∃σ' H',Inv X pins σ' H' s'∧D.nx σ' H'
 | .brk=>∃σ' H',Inv X pins σ' H' s'∧D.bk σ' H'
 | .cont=>∃σ' H',Inv X pins σ' H' s'∧D.ct σ' H'
 | .ret u=>∃v σ' H',Inv X pins σ' H' s'∧RelV v u∧D.rt v H'
def PE (X:Cx) (e:Expr) (t:TE):Prop:=
 ∀(pins:List (Addr×Obj)) (s:Shared) (σ:St) (H:Hp) (Q:VK),Inv X pins σ H s→t σ H Q→wpAny (model X.prog X.w) X.A (eval e X.env) (EP X pins σ Q) X.xe s
def PT (X:Cx) (e:Expr) (t:TT):Prop:=
 ∀(pins:List (Addr×Obj)) (s:Shared) (σ:St) (H:Hp) (Q:Bool→Hp→Prop),Inv X pins σ H s→t σ H Q→wpAny (model X.prog X.w) X.A (isTrue e X.env (eval e X.env)) (TP X pins σ Q) X.xe s
def PW (X:Cx) (e:Expr) (t:TT):Prop:=
 ∀(whole:Sem Value) (pins:List (Addr×Obj)) (s:Shared) (σ:St) (H:Hp) (Q:Bool→Hp→Prop),Inv X pins σ H s→t σ H Q→wpAny (model X.prog X.w) X.A (isTrue e X.env whole) (TP X pins σ Q) X.xe s
theorem PW.pt {X:Cx} {e:Expr} {t:TT} (h:PW X e t):PT X e t:=h _
def PA (X:Cx) (es:List Expr) (t:TA):Prop:=
 ∀(pos:Pos) (pins:List (Addr×Obj)) (s:Shared) (σ:St) (H:Hp) (Q:List V→Hp→Prop),Inv X pins σ H s→t σ H Q→wpAny (model X.prog X.w) X.A (spliced (backTo pos (starEach es X.env))) (AP X pins σ Q) X.xe s
def PS (X:Cx) (st:Stmt) (t:TS):Prop:=
 ∀(pins:List (Addr×Obj)) (s:Shared) (σ:St) (H:Hp) (D:Ends),Inv X pins σ H s→t D σ H→wpAny (model X.prog X.w) X.A (exec st X.env) (SP X pins D) X.xe s
def PSs (X:Cx) (st:List Stmt) (t:TS):Prop:=
 ∀(pins:List (Addr×Obj)) (s:Shared) (σ:St) (H:Hp) (D:Ends),Inv X pins σ H s→t D σ H→wpAny (model X.prog X.w) X.A (execs st X.env) (SP X pins D) X.xe s
theorem dH {α:Type} {t:Sem α} {Q Q':α→Shared→Prop} {M:Model} {A:Around} {E:Value→Shared→Prop} {s:Shared} (h:wpAny M A t Q E s) (hQ:∀a s,Q a s→Q' a s):wpAny M A t Q' E s:=wpAny_mono h hQ fun _ _ x=>x
end L2
namespace L2
open PySem PySem.Spec PyProof.Rows
section
variable {X:Cx}
def Bv (i:Nat):TE:=fun σ H Q=>∃v,σ[i]? =some (some v)∧Q v H
def tC (v:V):TE:=fun _ H Q=>Q v H
theorem ER {i:Nat} {x:Str} {pos:Pos} (hN:X.N[i]? =some x) (hv:HK X.env.scope x) (hd:(x==("__debug__":Str))=false:=by decide) (hcd:(x==("__classdict__":Str))=false:=by decide):PE X (.Name x pos) (Bv i):=by
 intro pins s σ H Q I h
 obtain⟨v,e,h⟩:=h
 obtain⟨m,hn,hl⟩:=I.loc
 obtain⟨u,r,l⟩:=hl i x v hN e hv
 have fin:EP X pins σ Q u s:=⟨v,H,I,r,h⟩
 rcases l with⟨hk,hm⟩|⟨hk,c,hc,hcell⟩
 ·exact wpAny_Name (wpAny_loadName_local I.ok.kind hk hn hm fin) hd
 ·rcases hk with hk|hk
  ·exact wpAny_Name (wpAny_loadName_cell I.ok.kind hk hc hcell fin) hd
  ·exact wpAny_Name (wpAny_loadName_free I.ok.kind hk hc hcell fin hcd) hd
theorem aA {i j pos}:PE X (.Constant (.int i) j pos) (tC (.int i)):=fun _ _ _ H _ I h=>wpAny_Constant_int ⟨.int i,H,I.tok _,⟨_,rfl⟩,h⟩
theorem tU {b j pos}:PE X (.Constant (.bool b) j pos) (tC (.bl b)):=fun _ _ _ H _ I h=>Constant_bool ⟨.bl b,H,I,rfl,h⟩
theorem fD {j pos}:PE X (.Constant .none j pos) (tC .non):=fun _ _ _ H _ I h=>Constant_none ⟨.non,H,I,rfl,h⟩
theorem bZ {x j pos}:PE X (.Constant (.str x) j pos) (tC (.str x)):=fun _ _ _ H _ I h=>Calls.Constant_str ⟨.str x,H,I.tok _,⟨_,rfl⟩,h⟩
def Gl (X:Cx) (x:Str):Prop:=X.env.kindOf x=some .globalImplicit
theorem sA {E:Value→Shared→Prop} {pins:List (Addr×Obj)} {s:Shared} {σ:St} {H:Hp} {x:Str} {u:Value} {pos:Pos} {Q:Value→Shared→Prop} (I:Inv X pins σ H s) (hg:Gl X x) (hm:X.mg x=some u) (h:Q u s)
  (hd:(x==("__debug__":Str))=false:=by decide):wpAny (model X.prog X.w) X.A (eval (.Name x pos) X.env) Q E s:=
 Calls.Name_function_global I.ok.kind hg (Calls.loadGlobal_global (by rw[I.ok.glob];exact I.mod.glob.keeps I.bk) hm h) hd
theorem lI {E:Value→Shared→Prop} {pins:List (Addr×Obj)} {s:Shared} {σ:St} {H:Hp} {x:Str} {u:Value} {pos:Pos} {Q:Value→Shared→Prop} (I:Inv X pins σ H s) (hg:Gl X x) (hm:X.mg x=none) (hv:bootBuiltins x=some u) (h:Q u s)
  (hn:x≠ "__name__":=by decide) (hd:(x==("__debug__":Str))=false:=by decide):wpAny (model X.prog X.w) X.A (eval (.Name x pos) X.env) Q E s:=by
 obtain⟨mb,h1,h2⟩:=I.mod.blt
 exact Calls.Name_function_global I.ok.kind hg (Calls.loadGlobal_builtin (by rw[I.ok.glob];exact I.mod.glob.keeps I.bk) hm (by rw[I.ok.blt];exact h1.keeps I.bk) ((h2 x hn).trans hv) h) hd
theorem gG {x:Str} {v:V} {u:Value} {pos:Pos} (hg:Gl X x) (hm:X.mg x=some u) (r:RelV v u) (hd:(x==("__debug__":Str))=false:=by decide):PE X (.Name x pos) (tC v):=
 fun _ _ _ H _ I h=>sA I hg hm ⟨v,H,I,r,h⟩ hd
theorem xD {x:Str} {v:V} {u:Value} {pos:Pos} (hg:Gl X x) (hm:X.mg x=none) (hv:bootBuiltins x=some u) (r:RelV v u) (hn:x≠ "__name__":=by decide) (hd:(x==("__debug__":Str))=false:=by decide):PE X (.Name x pos) (tC v):=
 fun _ _ _ H _ I h=>lI I hg hm hv ⟨v,H,I,r,h⟩ hn hd
variable {a b:Expr} {ta tb:TE} {pos:Pos}
def PC (X:Cx) (op:CmpOp) (a b:Expr) (t:TE):Prop:=
 ∀(pins:List (Addr×Obj)) (s:Shared) (σ:St) (H:Hp) (Q:VK),Inv X pins σ H s→t σ H Q→
  wpAny (model X.prog X.w) X.A (eval a X.env) (fun v s₁=>wpAny (model X.prog X.w) X.A (eval b X.env) (fun u s₂=>wpAny (model X.prog X.w) X.A (compareOp op v u) (EP X pins σ Q) X.xe s₂) X.xe s₁) X.xe s
def tB (t:TE):TT:=fun σ H Q=>t σ H fun x H1=>∃c,x= .bl c∧Q c H1
theorem rG {op:CmpOp} {t:TE} (h:PC X op a b t) (h1:behindInMarks op b=false:=by first|exact nobehind _ (by decide) (by decide)|rfl):PT X (.Compare a [op] [b] pos) (tB t):=by
 intro pins s σ H Q I hw
 refine wpAny_isTrue_Compare1 (dH (h pins s σ H _ I hw) fun v s1 h1=>dH h1 fun u s2 h2=>dH h2 fun c s3 ⟨x,H1,I1,r1,q1⟩=> ?_) h1
 obtain⟨d,rfl,q⟩:=q1
 cases r1
 exact wpAny_truthy_bool ⟨H1,I1,q⟩
theorem jl {e:Expr} {t:TE} (h:PE X e t) (he:∀whole,isTrue e X.env whole=(do let v←whole;standAt e.pos;holding [v] (truthy v)):=by intro _;rfl):PT X e (tB t):=by
 intro pins s σ H Q I hw
 refine isTrue_plain (dH (h pins s σ H _ I hw) fun v s1 ⟨x,H1,I1,r1,q1⟩=> ?_) (he _)
 obtain⟨d,rfl,q⟩:=q1
 cases r1
 exact wpAny_truthy_bool ⟨H1,I1,q⟩
variable {tA tB':TT} {rest:List Expr}
def Fk (t u:TT):TT:=fun σ H Q=>t σ H fun c H1=>if c=true then u σ H1 Q else Q false H1
def Ig (t u:TT):TT:=fun σ H Q=>t σ H fun c H1=>if c=true then Q true H1 else u σ H1 Q
def Ek (t:TT):TT:=fun σ H Q=>t σ H fun c H1=>Q (!c) H1
theorem gc (ha:PT X a tA):PW X (.BoolOp .And [a] pos) tA:=by
 intro wh pins s σ H Q I h
 refine isTrue_and (dH (ha pins s σ H Q I h) fun c s1 e=> ?_)
 cases c with
 |true=>exact isTrue_and_nil e
 |false=>exact e
theorem tt (ha:PT X a tA):PW X (.BoolOp .Or [a] pos) tA:=by
 intro wh pins s σ H Q I h
 refine isTrue_or (dH (ha pins s σ H Q I h) fun c s1 e=> ?_)
 cases c with
 |false=>exact isTrue_or_nil e
 |true=>exact e
theorem gP (ha:PT X a tA) (hb:PW X (.BoolOp .And (b::rest) pos) tB'):PW X (.BoolOp .And (a::b::rest) pos) (Fk tA tB'):=by
 intro wh pins s σ H Q I h
 refine isTrue_and (dH (ha pins s σ H _ I h) fun c s1 ⟨H1,I1,q1⟩=> ?_)
 cases c with
 |true=>exact hb wh pins s1 σ H1 Q I1 q1
 |false=>exact⟨H1,I1,q1⟩
theorem oQ (ha:PT X a tA) (hb:PW X (.BoolOp .Or (b::rest) pos) tB'):PW X (.BoolOp .Or (a::b::rest) pos) (Ig tA tB'):=by
 intro wh pins s σ H Q I h
 refine isTrue_or (dH (ha pins s σ H _ I h) fun c s1 ⟨H1,I1,q1⟩=> ?_)
 cases c with
 |true=>exact⟨H1,I1,q1⟩
 |false=>exact hb wh pins s1 σ H1 Q I1 q1
theorem sg (ha:PT X a tA):PT X (.UnaryOp .Not a pos) (Ek tA):=by
 intro pins s σ H Q I h
 exact isTrue_not (ha pins s σ H (fun c H1=>Q (!c) H1) I h)
def D2 (ta tb:TE):TE:=fun σ H Q=>ta σ H fun x H1=>∃c,x= .bl c∧if c=true then tb σ H1 Q else Q (.bl false) H1
theorem ES {op} {t:TE} (h:PE X a t):PE X (.BoolOp op [a] pos) t:=fun pins s σ H Q I hw=>BoolOp_one (h pins s σ H Q I hw)
theorem Ey (ha:PE X a ta) (hb:PE X (.BoolOp .And (b::rest) pos) tb):PE X (.BoolOp .And (a::b::rest) pos) (D2 ta tb):=by
 intro pins s σ H Q I h
 refine BoolOp_and (dH (ha pins s σ H _ I h) fun v s1 ⟨x,H1,I1,r1,q1⟩=> ?_)
 obtain⟨c,rfl,q1⟩:=q1
 cases r1
 refine wpAny_truthy_bool ?_
 cases c with
 |true=>exact hb pins s1 σ H1 Q I1 q1
 |false=>exact⟨.bl false,H1,I1,rfl,q1⟩
def HA (t:TT) (ta tb:TE):TE:=fun σ H Q=>t σ H fun c H1=>if c=true then ta σ H1 Q else tb σ H1 Q
theorem ud {c:Expr} (hc:PT X c tA) (ha:PE X a ta) (hb:PE X b tb):PE X (.IfExp c a b pos) (HA tA ta tb):=by
 intro pins s σ H Q I h
 refine wpAny_IfExp (dH (hc pins s σ H _ I h) fun d s1 ⟨H1,I1,q1⟩=> ?_)
 cases d with
 |true=>exact ha pins s1 σ H1 Q I1 q1
 |false=>exact hb pins s1 σ H1 Q I1 q1
end
end L2
namespace L2
open PySem PySem.Spec PyProof.Rows
def SqL (K:PySem.W.Frag) (H:Hp) (a:Addr) (xs:List V):Prop:=
 Rd H a (.lst xs)∨
  ∃(o:Obj) (its:Array Value) (n:Nat),K.lookup a=some o∧o.cls= .type "list"∧o.dict=none∧o.data= .seq its n∧its.size≤sizeLine∧Vals xs its.toList
def SqT (K:PySem.W.Frag) (H:Hp) (a:Addr) (xs:List V):Prop:=
 Rd H a (.tup xs)∨
  ∃(o:Obj) (its:Array Value) (n:Nat),K.lookup a=some o∧(o.cls= .type "tuple"∧o.dict=none)∧o.data= .seq its n∧its.size≤sizeLine∧Vals xs its.toList
noncomputable def Hw:Value→Option V
 | .none=>some .non
 | .bool b=>some (.bl b)
 | .int i _=>some (.int i)
 | .str x _=>some (.str x)
 | .bytes b _=>some (.byt b)
 | .float b _=>some (.flt b)
 | .ref a=>some (.ref a)
 | .type n=>some (.ty n)
 |_=>none
theorem RelV.abs {x:V} {u:Value} (r:RelV x u):Hw u=some x:=by
 cases x with
 |non=>cases r;rfl
 |bl _=>cases r;rfl
 |int _=>obtain⟨t,rfl⟩:=r;rfl
 |str _=>obtain⟨t,rfl⟩:=r;rfl
 |byt _=>obtain⟨t,rfl⟩:=r;rfl
 |flt _=>obtain⟨t,rfl⟩:=r;rfl
 |ref _=>cases r;rfl
 |ty _=>cases r;rfl
theorem RelV.inj {x y:V} {u:Value} (r:RelV x u) (q:RelV y u):x=y:=Option.some.inj (r.abs.symm.trans q.abs)
theorem Vals.inj:∀{xs ys:List V} {us:List Value},Vals xs us→Vals ys us→xs=ys
 |_,_,_,.nil,.nil=>rfl
 |_,_,_,.cons r t,.cons r' t'=>by rw[r.inj r',Vals.inj t t']
section
variable {X:Cx} {pins:List (Addr×Obj)} {σ:St} {H:Hp} {s:Shared} {a:Addr} {xs ys:List V}
theorem SqL.of {K:PySem.W.Frag} (h:H a=some (.lst xs)):SqL K H a xs:= .inl (.inl h)
theorem SqT.of {K:PySem.W.Frag} (h:H a=some (.tup xs)):SqT K H a xs:= .inl (.inl h)
theorem Inv.list (I:Inv X pins σ H s) (h:SqL X.K H a xs):∃its:List Value,Vals xs its∧PlainL s.heap a its.toArray∧xs.length≤sizeLine:=by
 rcases h with h|⟨o,its,n,hk,hc,hd,hs,hz,r⟩
 ·obtain⟨z,its,n,r,e⟩:=h.ok I.hok
  exact⟨its,r,⟨_,n,e,rfl,rfl,rfl⟩,z⟩
 ·refine⟨its.toList,r,⟨o,n,I.kIn a o hk,hc,hd,by simpa using hs⟩,?_⟩
  have e:=r.length
  simp only[Array.length_toList] at e
  omega
theorem Inv.tuple (I:Inv X pins σ H s) (h:SqT X.K H a xs):∃its:List Value,Vals xs its∧IsTup s.heap a its.toArray∧xs.length≤sizeLine:=by
 rcases h with h|⟨o,its,n,hk,hc,hs,hz,r⟩
 ·obtain⟨z,its,r,p⟩:=h.ok I.hok
  exact⟨its,r,p.tup,z⟩
 ·refine⟨its.toList,r,⟨o,I.kIn a o hk,hc.1,n,by simpa using hs⟩,?_⟩
  have e:=r.length
  simp only[Array.length_toList] at e
  omega
theorem Inv.tupleX (I:Inv X pins σ H s) (h:SqT X.K H a xs):∃its:List Value,Vals xs its∧TupX s.heap a its.toArray∧xs.length≤sizeLine:=by
 rcases h with h|⟨o,its,n,hk,hc,hs,hz,r⟩
 ·obtain⟨z,its,r,p⟩:=h.ok I.hok
  exact⟨its,r,p,z⟩
 ·refine⟨its.toList,r,⟨o,I.kIn a o hk,⟨hc.1,n,by simpa using hs⟩,hc.2⟩,?_⟩
  have e:=r.length
  simp only[Array.length_toList] at e
  omega
theorem Inv.list_inj (I:Inv X pins σ H s) (h:SqL X.K H a xs) (h':SqL X.K H a ys):xs=ys:=by
 obtain⟨its,r,⟨o,n,e,_,_,d⟩,_⟩:=I.list h
 obtain⟨its',r',⟨o',n',e',_,_,d'⟩,_⟩:=I.list h'
 rw[e] at e';cases e'
 rw[d] at d'
 injection d' with d1 _
 have:its=its':=by simpa using congrArg Array.toList d1
 subst this
 exact r.inj r'
theorem Inv.tuple_inj (I:Inv X pins σ H s) (h:SqT X.K H a xs) (h':SqT X.K H a ys):xs=ys:=by
 obtain⟨its,r,⟨o,e,_,n,d⟩,_⟩:=I.tuple h
 obtain⟨its',r',⟨o',e',_,n',d'⟩,_⟩:=I.tuple h'
 rw[e] at e';cases e'
 rw[d] at d'
 injection d' with d1 _
 have:its=its':=by simpa using congrArg Array.toList d1
 subst this
 exact r.inj r'
end
noncomputable abbrev Cx.wish (X:Cx) (E:Value→Shared→Prop):Cx:={X with xe:=E}
noncomputable abbrev Cx.nox (X:Cx):Cx:=X.wish fun _ _=>False
theorem Cx.Ok.wish {X:Cx} (ok:X.Ok) (E:Value→Shared→Prop):(X.wish E).Ok:=
 ⟨ok.mod,ok.kind,ok.glob,ok.blt,ok.above,ok.inj,ok.has,ok.cab,ok.hd,ok.frames,ok.stk,ok.exf,ok.bs,ok.bsz,ok.noex,ok.exfs,ok.funs,ok.frf⟩
theorem Cx.Ok.unwish {X:Cx} {E:Value→Shared→Prop} (ok:(X.wish E).Ok):X.Ok:=
 ⟨ok.mod,ok.kind,ok.glob,ok.blt,ok.above,ok.inj,ok.has,ok.cab,ok.hd,ok.frames,ok.stk,ok.exf,ok.bs,ok.bsz,ok.noex,ok.exfs,ok.funs,ok.frf⟩
section
variable {X:Cx} {pins:List (Addr×Obj)} {σ:St} {H:Hp} {s:Shared} {E:Value→Shared→Prop}
theorem Inv.wish (I:Inv X pins σ H s) (E:Value→Shared→Prop):Inv (X.wish E) pins σ H s:=⟨I.ok.wish E,I.os,I.bare,I.base,I.loc,I.cell,I.free,I.freeC,I.pin,I.hok,I.len⟩
theorem Inv.unwish (I:Inv (X.wish E) pins σ H s):Inv X pins σ H s:=⟨I.ok.unwish,I.os,I.bare,I.base,I.loc,I.cell,I.free,I.freeC,I.pin,I.hok,I.len⟩
theorem SP.unwish {D:Ends} {f:Flow} {s':Shared} (h:SP (X.wish E) pins D f s'):SP X pins D f s':=by
 cases f with
 |next=>obtain⟨σ',H',I,q⟩:=h;exact⟨σ',H',I.unwish,q⟩
 |brk=>obtain⟨σ',H',I,q⟩:=h;exact⟨σ',H',I.unwish,q⟩
 |cont=>obtain⟨σ',H',I,q⟩:=h;exact⟨σ',H',I.unwish,q⟩
 |ret u=>obtain⟨v,σ',H',I,r,q⟩:=h;exact⟨v,σ',H',I.unwish,r,q⟩
theorem PSs.nox {st:List Stmt} {t:TS} (h:PSs X.nox st t):PSs X st t:=fun pins s σ H D I hw=>
 wpAny_mono (h pins s σ H D (I.wish _) hw) (fun _ _ q=>q.unwish) fun _ _ z=>False.elim z
end
section
variable {X:Cx} {st:Stmt} {rest:List Stmt} {t u:TS} {e:Expr} {te:TE} {pos:Pos}
def BB:TS:=fun D σ H=>D.nx σ H
def Et (t u:TS):TS:=fun D σ H=>t {D with nx:=u D} σ H
theorem bU:PSs X [] BB:=fun _ _ σ H _ I h=>wpAny_execs_nil ⟨σ,H,I,h⟩
theorem aw (h1:PS X st t) (h2:PSs X rest u):PSs X (st::rest) (Et t u):=by
 intro pins s σ H D I h
 refine wpAny_execs_cons (dH (h1 pins s σ H {D with nx:=u D} I h) fun f s1 q=> ?_)
 cases f with
 |next=>
  obtain⟨σ',H',I',q⟩:=q
  exact h2 pins s1 σ' H' D I' q
 |ret v=>exact q
 |brk=>exact q
 |cont=>exact q
theorem aC (h1:PS X st t):PSs X [st] t:=by
 intro pins s σ H D I h
 refine wpAny_execs_cons (dH (h1 pins s σ H D I h) fun f s1 q=> ?_)
 cases f with
 |next=>exact wpAny_execs_nil q
 |ret v=>exact q
 |brk=>exact q
 |cont=>exact q
theorem Inv.quiet {pins:List (Addr×Obj)} {σ:St} {H:Hp} {s:Shared} (I:Inv X pins σ H s):interactive X.env=false:=by simp[interactive,I.ok.kind]
def Ai (te:TE):TS:=fun D σ H=>te σ H fun _ H1=>D.nx σ H1
theorem cD (he:PE X e te) (hs:swapsWith e none pos.line X.env=pure false:=by rfl):PS X (.Expr e pos) (Ai te):=by
 intro pins s σ H D I h
 exact wpAny_Expr_any (dH (he pins s σ H _ I h) fun v s1 ⟨x,H1,I1,r1,q1⟩=>⟨σ,H1,I1,q1⟩) I.quiet hs
def EI (te:TE):TS:=fun D σ H=>te σ H D.rt
theorem b4 (he:PE X e te):PS X (.Return (some e) pos) (EI te):=by
 intro pins s σ H D I h
 exact wpAny_Return_some (dH (he pins s σ H _ I h) fun v s1 ⟨x,H1,I1,r1,q1⟩=>⟨x,σ,H1,I1,r1,q1⟩)
def D5:TS:=fun D _ H=>D.rt .non H
theorem tG:PS X (.Return none pos) D5:=fun _ _ σ H _ I h=>wpAny_Return_none ⟨.non,σ,H,I,rfl,h⟩
def FK (c:TT) (t u:TS):TS:=fun D σ H=>c σ H fun b H1=>if b=true then t D σ H1 else u D σ H1
theorem cR {c:Expr} {a b:List Stmt} {tc:TT} (hc:PT X c tc) (ha:PSs X a t) (hb:PSs X b u):PS X (.If c a b pos) (FK tc t u):=by
 intro pins s σ H D I h
 refine wpAny_If (dH (hc pins s σ H _ I h) fun d s1 ⟨H1,I1,q1⟩=> ?_)
 cases d with
 |true=>exact ha pins s1 σ H1 D I1 q1
 |false=>exact hb pins s1 σ H1 D I1 q1
end
abbrev TG:=V→St→Hp→(St→Hp→Prop)→Prop
abbrev yJ:=List V→St→Hp→(St→Hp→Prop)→Prop
def PG (X:Cx) (target:Expr) (t:TG):Prop:=
 ∀(pins:List (Addr×Obj)) (s:Shared) (σ:St) (H:Hp) (v:V) (u:Value) (Q:St→Hp→Prop),Inv X pins σ H s→RelV v u→t v σ H Q→
  wpAny (model X.prog X.w) X.A (assign target X.env u) (fun _ s'=>∃σ' H',Inv X pins σ' H' s'∧Q σ' H') X.xe s
def Hf (X:Cx) (ts:List Expr) (t:yJ):Prop:=
 ∀(pins:List (Addr×Obj)) (s:Shared) (σ:St) (H:Hp) (vs:List V) (us:List Value) (Q:St→Hp→Prop),Inv X pins σ H s→Vals vs us→t vs σ H Q→
  wpAny (model X.prog X.w) X.A (assignInOrder ((assignEach ts X.env).map (·.2)) us) (fun _ s'=>∃σ' H',Inv X pins σ' H' s'∧Q σ' H') X.xe s
section
variable {X:Cx} {pos:Pos}
def tX (i:Nat):TG:=fun v σ H Q=>Q (σ.set i (some v)) H
theorem cE {i:Nat} {x:Str} (hN:X.N.Nodup) (hi:X.N[i]? =some x) (hx:Hd X.env.scope x) (hf:X.fn x=true∨X.env.scope.names.lookup x=some .local:=by first|exact .inl rfl|exact .inr rfl|assumption):PG X (.Name x pos) (tX i):=by
 intro pins s σ H v u Q I r h
 exact wpAny_assign_Name (uH I hN hi hx r (fun s' I'=>⟨_,H,I',h⟩) hf)
noncomputable def El:yJ:=fun vs σ H Q=>vs=[]∧Q σ H
noncomputable def AF (t:TG) (u:yJ):yJ:=fun vs σ H Q=>∃v r,vs=v::r∧t v σ H fun σ' H'=>u r σ' H' Q
theorem nh:Hf X [] El:=by
 intro pins s σ H vs us Q I r h
 obtain⟨e,h⟩:=h
 subst e
 cases r
 exact assignInOrder_nil ⟨σ,H,I,h⟩
theorem fO {e:Expr} {es:List Expr} {t:TG} {u:yJ} (h1:PG X e t) (h2:Hf X es u)
  (hs:(assignEach (e::es) X.env).map (·.2)=assign e X.env::(assignEach es X.env).map (·.2):=by rfl):Hf X (e::es) (AF t u):=by
 intro pins s σ H vs us Q I r h
 obtain⟨v,vr,e1,h⟩:=h
 subst e1
 cases r with
 |cons r rr=>
  rw[hs]
  refine assignInOrder_cons (dH (h1 pins s σ H _ _ _ I r h) fun _ s1 ⟨σ1,H1,I1,q1⟩=> ?_)
  exact h2 pins s1 σ1 H1 _ _ Q I1 rr q1
def Fq (K:PySem.W.Frag) (n:Nat) (t:yJ):TG:=fun v σ H Q=>∃a xs,v= .ref a∧SqT K H a xs∧xs.length=n∧t xs σ H Q
theorem rp {es:List Expr} {k:Nat} {t:yJ} {n:Nat} (hc:X.calm=true) (h:Hf X es t)
  (hn:(assignEach es X.env).length=n:=by rfl) (d8:(assignEach es X.env).findIdx? (·.1)=none:=by rfl):PG X (.Tuple es k pos) (Fq X.K n t):=by
 intro pins s σ H v u Q I r hw
 obtain⟨a,xs,e1,hq,hl,hw⟩:=hw
 subst e1
 cases r
 obtain⟨its,rv,ht,hz⟩:=I.tuple hq
 refine assign_Tuple_tuple (I.ok.hd hc) ht (by simp[hn,←hl,rv.length]) d8 fun h' hx=> ?_
 have I1:Inv X pins σ H {s with heap:=h'}:=I.kept (t':=s.toks) fun b o e=>hx b o (Nat.ne_of_lt (Heap.lt_size e)) e
 exact h pins _ σ H xs _ Q I1 (by simpa using rv) hw
def AU (te:TE) (g:TG):TS:=fun D σ H=>te σ H fun x H1=>g x σ H1 D.nx
theorem Bi {tg e:Expr} {te:TE} {g:TG} (he:PE X e te) (hg:PG X tg g) (hs:swapsWithSole [tg] e pos.line X.env=pure false:=by rfl) (hw:swappedStores [tg] e X.env=pure none:=by rfl)
  (h1:(assignEach [tg] X.env).map (·.2)=[assign tg X.env]:=by rfl):PS X (.Assign [tg] e pos) (AU te g):=by
 intro pins s σ H D I h
 refine wpAny_Assign_stores (dH (he pins s σ H _ I h) fun v s1 ⟨x,H1,I1,r1,q1⟩=> ?_) hs hw
 rw[h1]
 exact dH (hg pins s1 σ H1 x v _ I1 r1 q1) fun _ s2 q=>q
theorem bI {i:Nat} {x:Str} {e:Expr} {te:TE} {pos':Pos} (hN:X.N.Nodup) (hi:X.N[i]? =some x) (hx:Hd X.env.scope x) (he:PE X e te) (hs:swapsWith e (some (.Name x pos')) pos.line X.env=pure false:=by rfl) (hf:X.fn x=true∨X.env.scope.names.lookup x=some .local:=by first|exact .inl rfl|exact .inr rfl|assumption):
  PS X (.Assign [.Name x pos'] e pos) (AU te (tX i)):=by
 intro pins s σ H D I h
 refine wpAny_Assign_Name (dH (he pins s σ H _ I h) fun v s1 ⟨y,H1,I1,r1,q1⟩=> ?_) hs
 exact uH I1 hN hi hx r1 (fun s2 I2=>⟨_,H1,I2,q1⟩) hf
end
section
variable {X:Cx} {pos:Pos}
end
structure It where
 go:Nat→Hp→Prop
 yld:Nat→Hp→V→Hp→Prop
 stop:Nat→Hp→Prop
def lS (X:Cx) (pins:List (Addr×Obj)) (H:Hp) (b:Addr):Prop:=
 H b=none∧b≠X.env.locals∧b∉X.fs∧(b∈X.ex∨X.s₀.heap.objs.size≤b)∧(∀x c,X.env.cells.lookup x=some c→c≠b)∧∀p∈X.pn++pins,p.1≠b
theorem Inv.fpOk {X:Cx} {pins:List (Addr×Obj)} {σ:St} {H H':Hp} {s:Shared} {b:Addr} (I:Inv X pins σ H s) (hb:s.heap.objs.size≤b) (hn:H' b=none):lS X pins H' b:=by
 refine⟨hn,Nat.ne_of_gt (Nat.lt_of_lt_of_le I.lt hb),I.nofs hb,.inr (Nat.le_trans I.sz hb),fun x c e z=> ?_,fun p hp z=> ?_⟩
 ·obtain⟨v,q⟩:=I.cell x c e
  exact absurd (Nat.lt_of_lt_of_le q.lt (by rw[z];exact hb)) (Nat.lt_irrefl _)
 ·exact absurd (Nat.lt_of_lt_of_le (Heap.lt_size (I.pin p hp).1) (by rw[z];exact hb)) (Nat.lt_irrefl _)
structure Turn (P:Program) (w:World) (K:PySem.W.Frag) (tg:Expr) (J:It) (fp:List Addr) (it:Addr) (tn:Nat→Heap→Prop):Prop where
 mem:it∈fp
 obj:∀i h,tn i h→∀b∈fp,∃o,h.get? b=some o∧∀v,o.data≠ .cell v
 keep:∀i h h',tn i h→(∀b∈fp,∀o,h.get? b=some o→h'.get? b=some o)→tn i h'
 item:∀(X:Cx),X.prog=P→X.w=w→X.K=K→X.calm=true→∀(i:Nat) (pins:List (Addr×Obj)) (s:Shared) (σ:St) (H:Hp) (E:Value→Shared→Prop),Inv X pins σ H s→(∀b∈fp,lS X pins H b)→tn i s.heap→J.go i H→
  wpAny (model P w) X.A (pyNext (.ref it)) (fun r s1=>∃u,r=some u∧
   wpAny (model P w) X.A (letOwnedTupleGo tg (.ref it) u) (fun _ s2=>∃x H',Inv X pins σ H' s2∧RelV x u∧J.yld i H x H'∧tn (i+1) s2.heap∧∀b∈fp,H' b=none) E s1) E s
 done:∀(X:Cx),X.prog=P→X.w=w→X.K=K→X.calm=true→∀(i:Nat) (pins:List (Addr×Obj)) (s:Shared) (σ:St) (H:Hp) (E:Value→Shared→Prop),Inv X pins σ H s→(∀b∈fp,lS X pins H b)→tn i s.heap→J.stop i H→
  wpAny (model P w) X.A (pyNext (.ref it)) (fun r s1=>r=none∧Inv X pins σ H s1) E s
 self:∀(A:Around) (i:Nat) (s:Shared) (Q:Value→Shared→Prop) (E:Value→Shared→Prop),tn i s.heap→Q (.ref it) s→wpAny (model P w) A (pyIter (.ref it)) Q E s
abbrev TI:=St→Hp→(It→Hp→Prop)→Prop
def Ia (X:Cx) (pins:List (Addr×Obj)) (σ:St) (tg:Expr) (R:It→Hp→Prop) (itv:Value) (s2:Shared):Prop:=
 ∃(it:Addr) (fp:List Addr) (tn:Nat→Heap→Prop) (J:It) (H':Hp),itv= .ref it∧Inv X pins σ H' s2∧Turn X.prog X.w X.K tg J fp it tn∧tn 0 s2.heap∧(∀b∈fp,lS X pins H' b)∧R J H'
def PI (X:Cx) (tg iter:Expr) (wi:TI):Prop:=
 ∀(pins:List (Addr×Obj)) (s:Shared) (σ:St) (H:Hp) (R:It→Hp→Prop),Inv X pins σ H s→wi σ H R→
  wpAny (model X.prog X.w) X.A (eval iter X.env) (fun v s1=>wpAny (model X.prog X.w) X.A (pyIter v) (Ia X pins σ tg R) X.xe s1) X.xe s
theorem yc {M:Model} {A:Around} {E:Value→Shared→Prop} {s:Shared} {tg:Expr} {it:Addr} {u:Value} {o:Obj} {n:String} {vs:Array Value} {Q:Unit→Shared→Prop} (ho:s.heap.get? it=some o) (hc:o.cls= .type n) (hd:o.data= .fields vs)
  (hn:["enumerate","zip","dict_itemiterator","dict_reverseitemiterator","odict_iterator","itertools.zip_longest","itertools.pairwise"].contains n=false) (hQ:Q () s):wpAny M A (letOwnedTupleGo tg (.ref it) u) Q E s:=by
 unfold letOwnedTupleGo
 cases tg<;>first
  |exact wpAny_pure hQ
  |(cases u<;>first
    |exact wpAny_pure hQ
    |(refine wpAny_bind (wpAny_load ho ?_)
      rw[hc,hd]
      show wpAny M A (if(["enumerate","zip","dict_itemiterator","dict_reverseitemiterator","odict_iterator","itertools.zip_longest","itertools.pairwise"].contains n&&vs[0]? ==some (rawInt _))=true then _ else _) Q E s
      rw[if_neg (by intro h;rw[hn,Bool.false_and] at h;cases h)]
      exact wpAny_pure hQ))
noncomputable def HG (K:PySem.W.Frag) (a:Addr):It:=
 ⟨fun i H=>∃xs x,SqL K H a xs∧xs[i]? =some x,fun i H x H'=>H'=H∧∀xs,SqL K H a xs→xs[i]? =some x,fun i H=>∃xs,SqL K H a xs∧xs.length≤i⟩
noncomputable def HL (K:PySem.W.Frag) (a:Addr):It:=
 ⟨fun i H=>∃xs x,SqT K H a xs∧xs[i]? =some x,fun i H x H'=>H'=H∧∀xs,SqT K H a xs→xs[i]? =some x,fun i H=>∃xs,SqT K H a xs∧xs.length≤i⟩
noncomputable def Ho (lo:Int) (n:Nat):It:=⟨fun i _=>i<n,fun i H x H'=>H'=H∧x= .int (lo+i),fun i _=>n≤i⟩
theorem yn {P:Program} {w:World} {K:PySem.W.Frag} {tg:Expr} (a it:Addr):Turn P w K tg (HG K a) [it] it (fun i h=>h.IsListIter it a i) where
 mem:=by simp
 obj:=fun i h st b hb=>by
  have e:b=it:=by simpa using hb
  subst e
  obtain⟨o,e,c,d⟩:=st
  exact⟨o,e,fun v z=>by rw[d] at z;cases z⟩
 keep:=fun i h h' st k=>st.at fun o e=>k it (by simp) o e
 item:=by
  intro X hP hw hK hc i pins s σ H E I hf st hg
  subst hP hw hK
  obtain⟨xs,x,hq,hx⟩:=hg
  obtain⟨its,rv,p,hz⟩:=I.list hq
  obtain⟨u,hu,ru⟩:=rv.get hx
  obtain⟨f0,f1,f2,f3,f4,f5⟩:=hf it (by simp)
  refine wpAny_pyNext_list_item st p.isList (x:=u) (by simpa using hu) fun h' st' sb=> ?_
  have I1:Inv X pins σ H {s with heap:=h'}:=I.turned (t':=s.toks) (fun b o hb e=>(sb.2 b hb).trans e) f0 f1 f3 f4 f5
  obtain⟨o,e,c,d⟩:=id st'
  exact⟨u,rfl,yc (s:={s with heap:=h'}) e c d (by decide) ⟨x,H,I1,ru,⟨rfl,fun ys hy=>by rw[I.list_inj hy hq];exact hx⟩,st',fun b hb=>(hf b hb).1⟩⟩
 done:=by
  intro X hP hw hK hc i pins s σ H E I hf st hg
  subst hP hw hK
  obtain⟨xs,hq,hx⟩:=hg
  obtain⟨its,rv,p,hz⟩:=I.list hq
  obtain⟨f0,f1,f2,f3,f4,f5⟩:=hf it (by simp)
  have hl:=rv.length
  exact wpAny_pyNext_list_end (I.ok.hd hc) st p.isList (by simp;omega) fun h' eb=>⟨rfl,I.turned (t':=s.toks) (fun b o hb e=>eb b o hb e) f0 f1 f3 f4 f5⟩
 self:=fun _ _ _ _ _ st h=>wpAny_pyIter_listiter st h
theorem wk {P:Program} {w:World} {K:PySem.W.Frag} {tg:Expr} (a it:Addr):Turn P w K tg (HL K a) [it] it (fun i h=>h.IsTupleIter it a i) where
 mem:=by simp
 obj:=fun i h st b hb=>by
  have e:b=it:=by simpa using hb
  subst e
  obtain⟨o,e,c,d⟩:=st
  exact⟨o,e,fun v z=>by rw[d] at z;cases z⟩
 keep:=fun i h h' st k=>st.at fun o e=>k it (by simp) o e
 item:=by
  intro X hP hw hK hc i pins s σ H E I hf st hg
  subst hP hw hK
  obtain⟨xs,x,hq,hx⟩:=hg
  obtain⟨its,rv,p,hz⟩:=I.tuple hq
  obtain⟨u,hu,ru⟩:=rv.get hx
  obtain⟨f0,f1,f2,f3,f4,f5⟩:=hf it (by simp)
  refine wpAny_pyNext_tuple_item st (show s.heap.IsTuple a its.toArray from p) (x:=u) (by simpa using hu) fun h' st' sb=> ?_
  have I1:Inv X pins σ H {s with heap:=h'}:=I.turned (t':=s.toks) (fun b o hb e=>(sb.2 b hb).trans e) f0 f1 f3 f4 f5
  obtain⟨o,e,c,d⟩:=id st'
  exact⟨u,rfl,yc (s:={s with heap:=h'}) e c d (by decide) ⟨x,H,I1,ru,⟨rfl,fun ys hy=>by rw[I.tuple_inj hy hq];exact hx⟩,st',fun b hb=>(hf b hb).1⟩⟩
 done:=by
  intro X hP hw hK hc i pins s σ H E I hf st hg
  subst hP hw hK
  obtain⟨xs,hq,hx⟩:=hg
  obtain⟨its,rv,p,hz⟩:=I.tuple hq
  obtain⟨f0,f1,f2,f3,f4,f5⟩:=hf it (by simp)
  have hl:=rv.length
  exact wpAny_pyNext_tuple_end (I.ok.hd hc) st (show s.heap.IsTuple a its.toArray from p) (by simp;omega) fun h' eb=>⟨rfl,I.turned (t':=s.toks) (fun b o hb e=>eb b o hb e) f0 f1 f3 f4 f5⟩
 self:=fun _ _ _ _ _ st h=>wpAny_pyIter_tupleiter st h
theorem wu {P:Program} {w:World} {K:PySem.W.Frag} {tg:Expr} (it:Addr) (lo:Int) (n:Nat):Turn P w K tg (Ho lo n) [it] it (fun i h=>IsRangeIter h it (lo+(i:Nat)*1) ((n:Int) - (i:Nat)) 1) where
 mem:=by simp
 obj:=fun i h st b hb=>by
  have e:b=it:=by simpa using hb
  subst e
  exact⟨_,st,fun v z=>by
   have z':Data.fields _=Data.cell v:=z
   cases z'⟩
 keep:=fun i h h' st k=>k it (by simp) _ st
 item:=by
  intro X hP hw hK hc i pins s σ H E I hf st hg
  subst hP hw hK
  obtain⟨f0,f1,f2,f3,f4,f5⟩:=hf it (by simp)
  have W:=Walks.range (prog:=X.prog) (w:=X.w) (I.ok.hd hc) it lo 1 n
  refine W.item i s _ _ hg st fun v h' tk hv st' kk=> ?_
  obtain⟨t,rfl⟩:=hv
  have I1:Inv X pins σ H {s with heap:=h',toks:=tk}:=I.turned (fun b o hb e=>kk b o (by simpa using hb) e) f0 f1 f3 f4 f5
  refine⟨_,rfl,yc (s:={s with heap:=h',toks:=tk}) (n:= "range_iterator") st' rfl rfl (by decide) ⟨.int (lo+i),H,I1,⟨t,?_⟩,⟨rfl,rfl⟩,st',fun b hb=>(hf b hb).1⟩⟩
  rw[Int.mul_one]
 done:=by
  intro X hP hw hK hc i pins s σ H E I hf st hg
  subst hP hw hK
  obtain⟨f0,f1,f2,f3,f4,f5⟩:=hf it (by simp)
  exact wpAny_pyNext_range_end (I.ok.hd hc) st (by have:n≤i:=hg;omega) fun h' eb=>⟨rfl,I.turned (t':=s.toks) (fun b o hb e=>eb b o hb e) f0 f1 f3 f4 f5⟩
 self:=fun _ _ _ _ _ st h=>wpAny_pyIter_rangeiter st h
end L2
namespace L2
open PySem PySem.Spec PyProof.Rows
section
variable {X:Cx} {tg:Expr}
theorem zR {pins:List (Addr×Obj)} {σ:St} {H:Hp} {s:Shared} {R:It→Hp→Prop} {E:Value→Shared→Prop} {lo hi:Int} {t u v:Tok} {tk:Nat} (I:Inv X pins σ H s) (h1: -(2^62)≤lo) (h2:lo<2^62) (h3: -(2^62)≤hi) (h4:hi<2^62)
  (q:R (Ho lo (hi - lo).toNat) H):wpAny (model X.prog X.w) X.A (pyIter (.ref s.heap.objs.size)) (Ia X pins σ tg R) E {s with heap:=s.heap.push {cls:= .type "range",data:= .fields #[.int lo t,.int hi u,.int 1 v]},toks:=tk}:=by
 refine wpAny_pyIter_range (IsRange.new ..) (small_one h1 h2 h3 h4) ?_
 have I1:Inv X pins σ H {s with heap:=s.heap.push {cls:= .type "range",data:= .fields #[.int lo t,.int hi u,.int 1 v]},toks:=tk}:=I.kept fun b o e=>Heap.get?_push_of_some _ e
 refine⟨(s.heap.push {cls:= .type "range",data:= .fields #[.int lo t,.int hi u,.int 1 v]}).objs.size,[(s.heap.push {cls:= .type "range",data:= .fields #[.int lo t,.int hi u,.int 1 v]}).objs.size],_,_,H,rfl,
  I1.kept (t':=tk) fun b o e=>Heap.get?_push_of_some _ e,wu _ lo (hi - lo).toNat,?_,fun b hb=> ?_,q⟩
 ·have e1:lo+((0:Nat):Int)*1=lo:=by simp
  have e2:(((hi - lo).toNat:Nat):Int) - ((0:Nat):Int)=Builtin.Range.rangeSize lo hi 1:=by rw[rangeSize_one];split<;>omega
  show IsRangeIter _ _ (lo+((0:Nat):Int)*1) ((((hi - lo).toNat:Nat):Int) - ((0:Nat):Int)) 1
  rw[e1,e2]
  exact Heap.get?_push_size _ rfl
 ·have e:b=(s.heap.push {cls:= .type "range",data:= .fields #[.int lo t,.int hi u,.int 1 v]}).objs.size:=by simpa using hb
  subst e
  exact I1.fpOk (Nat.le_refl _) (I1.hok.fresh (Nat.le_refl _))
def DM (ta:TA):TI:=fun σ H R=>ta σ H fun vs H1=>∃j:Int,vs=[.int j]∧ -(2^62)≤j∧j<2^62∧R (Ho 0 j.toNat) H1
theorem qp {a:Expr} {ta:TA} {p pos:Pos} (hg:Gl X "range") (hm:X.mg "range"=none) (ha:PA X [a] ta) (hs:starEach [a] X.env=[(false,eval a X.env)]:=by rfl):PI X tg (.Call (.Name "range" p) [a] [] pos) (DM ta):=by
 intro pins s σ H R I h
 refine Call_ (lI I hg hm boot_range (PyProof.Rows.callWith_type1 (dH (ha pos pins s σ H _ I h) fun us s1 ⟨vs,H1,I1,r1,q1⟩=> ?_) hs rfl))
 obtain⟨j,e,q1,q2,q⟩:=q1
 subst e
 cases r1 with
 |cons r rr=>
  cases rr
  obtain⟨t,rfl⟩:=r
  exact call_range_1 (zR I1 (by omega) (by omega) q1 q2 (by simpa using q))
def FJ (wi:TI) (g:TG) (tb:TS):TS:=fun D σ H=>wi σ H fun J H1=>∃W:Nat→Nat→St→Hp→Prop,(∃m,W 0 m σ H1)∧∀i m σ H,W i m σ H→
 (J.stop i H∧D.nx σ H)∨(J.go i H∧∃N:St→Hp→Prop,(∀σ' H',N σ' H'→∃m',m'<m∧W (i+1) m' σ' H')∧∀x H',J.yld i H x H'→g x σ H' fun σ2 H2=>tb {D with nx:=N,ct:=N,bk:=D.nx} σ2 H2)
noncomputable def nF (fp:List Addr) (h:Heap):List (Addr×Obj):=fp.filterMap fun b=>(h.get? b).map fun o=>(b,o)
theorem iz {fp:List Addr} {h:Heap} {b:Addr} {o:Obj} (hb:b∈fp) (e:h.get? b=some o):(b,o)∈nF fp h:=List.mem_filterMap.mpr ⟨b,hb,by rw[e];rfl⟩
theorem yG {fp:List Addr} {h:Heap} {p:Addr×Obj} (hp:p∈nF fp h):p.1∈fp∧h.get? p.1=some p.2:=by
 obtain⟨b,hb,e⟩:=List.mem_filterMap.mp hp
 cases q:h.get? b with
 |none=>rw[q] at e;cases e
 |some o=>
  rw[q] at e
  have e':(b,o)=p:=Option.some.inj e
  subst e'
  exact⟨hb,q⟩
theorem Inv.pinned {pins:List (Addr×Obj)} {σ:St} {H:Hp} {s:Shared} {fp:List Addr} (I:Inv X pins σ H s) (hf:∀b∈fp,lS X pins H b) (ho:∀b∈fp,∃o,s.heap.get? b=some o∧∀v,o.data≠ .cell v):Inv X (pins++nF fp s.heap) σ H s:=
 I.pins_of fun p hp=>(List.mem_append.mp hp).elim (fun z=>I.pin p (List.mem_append_right _ z)) fun z=>by
  obtain⟨hb,e⟩:=yG z
  obtain⟨f0,f1,f2,_⟩:=hf p.1 hb
  obtain⟨o,e',d⟩:=ho p.1 hb
  rw[e] at e';cases e'
  exact⟨e,f0,f1,f2,d⟩
theorem Inv.unpinned {pins pl:List (Addr×Obj)} {σ:St} {H:Hp} {s:Shared} (I:Inv X (pins++pl) σ H s):Inv X pins σ H s:=I.pins_of fun p hp=>I.pin p (List.mem_append_right _ (List.mem_append_left _ hp))
theorem lw {iter:Expr} {body:List Stmt} {wi:TI} {g:TG} {tb:TS} {pos:Pos} (hp:PassesOwn (model X.prog X.w) X.A X.env X.xe) (hc:X.calm=true) (hi:PI X tg iter wi) (hg:PG X tg g) (hb:PSs X body tb)
  (hs:∀x,foldedSetIterable iter X.env x=pure x:=by intro _;rfl):PS X (.For tg iter body [] pos) (FJ wi g tb):=by
 intro pins s σ H D I h
 refine wpAny_For (dH (hi pins s σ H _ I h) fun v s1 h1=>dH h1 fun itv s2 h2=> ?_) hs
 obtain⟨it,fp,tn,J,H2,e,I2,T,st2,f2,W,⟨m0,w0⟩,turn⟩:=h2
 subst e
 have stat:∀{H':Hp},(∀b∈fp,H' b=none)→∀b∈fp,lS X pins H' b:=fun hn b hb=>⟨hn b hb,(f2 b hb).2⟩
 refine codeAny_forLoop_any (fun n s'=>∃i σ' H',Inv X pins σ' H' s'∧tn i s'.heap∧(∀b∈fp,H' b=none)∧W i n σ' H') ?_ m0 ⟨0,σ,H2,I2,st2,fun b hb=>(f2 b hb).1,w0⟩
 rintro n s3 ⟨i,σ3,H3,I3,st3,fr3,w3⟩
 rcases turn i n σ3 H3 w3 with⟨stop,qn⟩|⟨go,N,hN,step⟩
 ·refine wpAny_passesOwn hp (dH (T.done X rfl rfl rfl hc i pins s3 σ3 H3 X.xe I3 (stat fr3) st3 stop) fun r s4 ⟨hr,I4⟩=> ?_)
  subst hr
  exact wpAny_execs_nil ⟨σ3,H3,I4,qn⟩
 ·refine wpAny_passesOwn hp (dH (T.item X rfl rfl rfl hc i pins s3 σ3 H3 X.xe I3 (stat fr3) st3 go) fun r s4 ⟨u,hr,h4⟩=> ?_)
  subst hr
  refine wpAny_passesOwn hp (dH h4 fun _ s5 ⟨x,H5,I5,r5,y5,st5,fr5⟩=> ?_)
  have I5':=I5.pinned (stat fr5) (T.obj _ _ st5)
  refine wpAny_passesOwn hp (dH (hg _ s5 σ3 H5 x u _ I5' r5 (step x H5 y5)) fun _ s6 ⟨σ6,H6,I6,q6⟩=> ?_)
  refine wpAny_passesOwn hp (dH (hb _ s6 σ6 H6 _ I6 q6) fun f s7 q7=> ?_)
  have again:∀{σ7:St} {H7:Hp},Inv X (pins++nF fp s5.heap) σ7 H7 s7→N σ7 H7→∃m,m<n∧∃i σ' H',Inv X pins σ' H' s7∧tn i s7.heap∧(∀b∈fp,H' b=none)∧W i m σ' H':=fun{σ7 H7} I7 n7=>by
   obtain⟨m',hm,w7⟩:=hN σ7 H7 n7
   refine⟨m',hm,i+1,σ7,H7,I7.unpinned,T.keep _ _ _ st5 fun b hb o e=>(I7.pin (b,o) (List.mem_append_right _ (List.mem_append_right _ (iz hb e)))).1,fun b hb=> ?_,w7⟩
   obtain⟨o,e,d⟩:=T.obj _ _ st5 b hb
   exact(I7.pin (b,o) (List.mem_append_right _ (List.mem_append_right _ (iz hb e)))).2.1
  cases f with
  |next=>obtain⟨σ7,H7,I7,n7⟩:=q7;exact again I7 n7
  |cont=>obtain⟨σ7,H7,I7,n7⟩:=q7;exact again I7 n7
  |brk=>obtain⟨σ7,H7,I7,q7⟩:=q7;exact⟨σ7,H7,I7.unpinned,q7⟩
  |ret v=>obtain⟨x7,σ7,H7,I7,r7,q7⟩:=q7;exact⟨x7,σ7,H7,I7.unpinned,r7,q7⟩
end
end L2
namespace L2
open PySem PySem.Spec PyProof.Rows
abbrev R2:=V→V→Hp→VK→Prop
def OpR (X:Cx) (f:Value→Value→Sem Value) (r:R2):Prop:=
 ∀(pins:List (Addr×Obj)) (s:Shared) (σ:St) (H:Hp) (x y:V) (v u:Value) (Q:VK),Inv X pins σ H s→RelV x v→RelV y u→r x y H Q→
  wpAny (model X.prog X.w) X.A (f v u) (EP X pins σ Q) X.xe s
def CallR (X:Cx) (f:Value) (r:List V→Hp→VK→Prop):Prop:=
 ∀(pins:List (Addr×Obj)) (s:Shared) (σ:St) (H:Hp) (xs:List V) (us:List Value) (Q:VK),Inv X pins σ H s→Vals xs us→r xs H Q→
  wpAny (model X.prog X.w) X.A (call f us) (EP X pins σ Q) X.xe s
def Fx (r:R2) (ta tb:TE):TE:=fun σ H Q=>ta σ H fun x H1=>tb σ H1 fun y H2=>r x y H2 Q
def rI (C:Int→Int→Prop) (g:Int→Int→V):R2:=fun x y H Q=>∃i j,x= .int i∧y= .int j∧C i j∧Q (g i j) H
def zg (g:Int→Int→V):R2:=fun x y H Q=>∃i j,x= .int i∧y= .int j∧Q (g i j) H
section
variable {X:Cx} {a b c:Expr} {ta tb tc:TE} {pos:Pos}
theorem Ew (ha:PE X a ta) (hb:PE X b tb) {pins:List (Addr×Obj)} {s:Shared} {σ:St} {H:Hp} {R:V→V→Hp→Prop} (I:Inv X pins σ H s)
  (h:ta σ H fun x H1=>tb σ H1 fun y H2=>R x y H2) {Q:Value→Shared→Prop} {f:Value→Value→Sem Value}
  (hf:∀v u s2 x y H2,Inv X pins σ H2 s2→RelV x v→RelV y u→R x y H2→wpAny (model X.prog X.w) X.A (f v u) Q X.xe s2):
  wpAny (model X.prog X.w) X.A (eval a X.env) (fun v s₁=>wpAny (model X.prog X.w) X.A (eval b X.env) (fun u s₂=>wpAny (model X.prog X.w) X.A (f v u) Q X.xe s₂) X.xe s₁) X.xe s:=by
 refine dH (ha pins s σ H _ I h) fun v s1 ⟨x,H1,I1,r1,q1⟩=> ?_
 refine dH (hb pins s1 σ H1 _ I1 q1) fun u s2 ⟨y,H2,I2,r2,q2⟩=> ?_
 exact hf v u s2 x y H2 I2 r1 r2 q2
theorem cT {op:Operator} {r:R2} (ho:OpR X (binaryOp op) r) (ha:PE X a ta) (hb:PE X b tb):PE X (.BinOp a op b pos) (Fx r ta tb):=by
 intro pins s σ H Q I h
 exact wpAny_BinOp (Ew ha hb I h fun v u s2 x y H2 I2 rx ry q=>ho pins s2 σ H2 x y v u Q I2 rx ry q)
theorem HQ {f:Value→Value→Sem Value} {C:Int→Int→Prop} {g:Int→Int→Int}
  (rule:∀(i j:Int) (t u:Tok) (s:Shared) (Q:Value→Shared→Prop) (E:Value→Shared→Prop),C i j→Q (.int (g i j) s.toks) {s with toks:=s.toks+1}→wpAny (model X.prog X.w) X.A (f (.int i t) (.int j u)) Q E s):
  OpR X f (rI C fun i j=> .int (g i j)):=by
 intro pins s σ H x y v u Q I rx ry h
 obtain⟨i,j,rfl,rfl,hc,q⟩:=h
 obtain⟨t,rfl⟩:=rx
 obtain⟨t',rfl⟩:=ry
 exact rule i j t t' s _ _ hc ⟨.int (g i j),H,I.tok _,⟨_,rfl⟩,q⟩
theorem Gn {f:Value→Value→Sem Value} {g:Int→Int→Int}
  (rule:∀(i j:Int) (t u:Tok) (s:Shared) (Q:Value→Shared→Prop) (E:Value→Shared→Prop),Q (.int (g i j) s.toks) {s with toks:=s.toks+1}→wpAny (model X.prog X.w) X.A (f (.int i t) (.int j u)) Q E s):
  OpR X f (zg fun i j=> .int (g i j)):=by
 intro pins s σ H x y v u Q I rx ry h
 obtain⟨i,j,rfl,rfl,q⟩:=h
 obtain⟨t,rfl⟩:=rx
 obtain⟨t',rfl⟩:=ry
 exact rule i j t t' s _ _ ⟨.int (g i j),H,I.tok _,⟨_,rfl⟩,q⟩
theorem GW {f:Value→Value→Sem Value} {g:Int→Int→Bool}
  (rule:∀(i j:Int) (t u:Tok) (s:Shared) (Q:Value→Shared→Prop) (E:Value→Shared→Prop),Q (.bool (g i j)) s→wpAny (model X.prog X.w) X.A (f (.int i t) (.int j u)) Q E s):
  OpR X f (zg fun i j=> .bl (g i j)):=by
 intro pins s σ H x y v u Q I rx ry h
 obtain⟨i,j,rfl,rfl,q⟩:=h
 obtain⟨t,rfl⟩:=rx
 obtain⟨t',rfl⟩:=ry
 exact rule i j t t' s _ _ ⟨.bl (g i j),H,I,rfl,q⟩
def CMul (i j:Int):Prop:=(-(2^64)<i∧i<2^64)∨(-(2^64)<j∧j<2^64)
theorem CMul.ok {i j:Int} (h:CMul i j):IntMulOk i j:=by
 rcases h with⟨h1,h2⟩|⟨h1,h2⟩
 ·exact .of_left (intBits_le_64 h1 h2)
 ·exact .of_right (intBits_le_64 h1 h2)
theorem E4:OpR X (binaryOp .Add) (zg fun i j=> .int (i+j)):=Gn fun _ _ _ _ _ _ _ q=>add_int q
theorem zM:OpR X (binaryOp .Sub) (zg fun i j=> .int (i - j)):=Gn fun _ _ _ _ _ _ _ q=>sub_int q
theorem FR:OpR X (binaryOp .Mult) (rI CMul fun i j=> .int (i*j)):=HQ fun _ _ _ _ _ _ _ hc q=>mul_int q hc.ok
theorem lB:OpR X (binaryOp .Mod) (rI (fun _ j=>0<j) fun i j=> .int (i % j)):=HQ fun i j _ _ _ _ _ hc q=>by
 have h1:(0:Int)<j:=hc
 exact mod_int' (by omega) (by rw[Int.fmod_eq_emod_of_nonneg i (by omega)];exact q)
end
section
variable {X:Cx} {a b c:Expr} {ta tb tc:TE} {pos:Pos}
theorem zO {pins:List (Addr×Obj)} {σ:St} {H:Hp} {s:Shared} {Q:VK} {k k':Bool} (I:Inv X pins σ H s) (q:Q (.bl k) H) (e:k=k'):EP X pins σ Q (.bool k') s:=by
 subst e
 exact⟨.bl k,H,I,rfl,q⟩
theorem G3:OpR X (compareOp .Lt) (zg fun i j=> .bl (decide (i<j))):=GW fun _ _ _ _ _ _ _ q=>lt_int q
theorem D0:OpR X (compareOp .Gt) (zg fun i j=> .bl (decide (j<i))):=GW fun _ _ _ _ _ _ _ q=>gt_int q
theorem BL:OpR X (compareOp .Is) (fun x y H Q=>y= .non∧Q (.bl (decide (x= .non))) H):=by
 intro pins s σ H x y v u Q I rx ry h
 obtain⟨rfl,q⟩:=h
 cases ry
 refine is_none_gen (zO I q ?_)
 cases x<;>first
  |(cases rx;rfl)
  |(obtain⟨t,rfl⟩:=rx;rfl)
theorem rj:OpR X (compareOp .IsNot) (fun x y H Q=>y= .non∧Q (.bl (!decide (x= .non))) H):=by
 intro pins s σ H x y v u Q I rx ry h
 obtain⟨rfl,q⟩:=h
 cases ry
 refine isnot_none_gen (zO I q ?_)
 cases x<;>first
  |(cases rx;rfl)
  |(obtain⟨t,rfl⟩:=rx;rfl)
theorem bq (b:Expr) {op:CmpOp} (h:op≠ .In:=by decide) (h2:op≠ .NotIn:=by decide):behindInMarks op b=false:=by
 have e1:(op==CmpOp.In)=false:=by cases op<;>first|rfl|exact absurd rfl h
 have e2:(op==CmpOp.NotIn)=false:=by cases op<;>first|rfl|exact absurd rfl h2
 cases b<;>simp[behindInMarks,e1,e2]
theorem jE {op:CmpOp} {r:R2} (ho:OpR X (compareOp op) r) (ha:PE X a ta) (hb:PE X b tb) (hm:behindInMarks op b=false):PE X (.Compare a [op] [b] pos) (Fx r ta tb):=by
 intro pins s σ H Q I h
 exact wpAny_Compare1 (Ew ha hb I h fun v u s2 x y H2 I2 rx ry q=>ho pins s2 σ H2 x y v u Q I2 rx ry q) hm
def BF (t:TE):TT:=fun σ H Q=>t σ H fun x H'=>∃k,x= .bl k∧Q k H'
theorem aQ {op:CmpOp} {r:R2} (ho:OpR X (compareOp op) r) (ha:PE X a ta) (hb:PE X b tb) (hm:behindInMarks op b=false):PT X (.Compare a [op] [b] pos) (BF (Fx r ta tb)):=by
 intro pins s σ H Q I h
 refine wpAny_isTrue_Compare1 (dH (ha pins s σ H _ I h) fun v s1 ⟨x,H1,I1,r1,q1⟩=>dH (hb pins s1 σ H1 _ I1 q1) fun u s2 ⟨y,H2,I2,r2,q2⟩=>
  dH (ho pins s2 σ H2 x y v u _ I2 r1 r2 q2) fun c s3 ⟨z,H3,I3,r3,k,e,q3⟩=> ?_) hm
 subst e
 cases r3
 exact wpAny_truthy_bool ⟨H3,I3,q3⟩
theorem ri:(sizeLine:Nat)<2^63:=by rw[sizeLine_eq];decide
theorem iR {x:V} {us:List Value} (r:Vals [x] us):∃u,us=[u]∧RelV x u:=by
 cases r with
 |cons r1 r2=>cases r2;exact⟨_,rfl,r1⟩
theorem DQ {x y:V} {us:List Value} (r:Vals [x,y] us):∃u w',us=[u,w']∧RelV x u∧RelV y w':=by
 cases r with
 |cons r1 r2=>
  cases r2 with
  |cons r3 r4=>cases r4;exact⟨_,_,rfl,r1,r3⟩
def GM (K:PySem.W.Frag) (x:V) (H:Hp) (n:Nat):Prop:=
 match x with
 | .str y=>y.length≤sizeLine∧n=y.length
 | .byt y=>y.size≤sizeLine∧n=y.size
 | .ref p=>(∃xs,SqL K H p xs∧n=xs.length)∨∃xs,SqT K H p xs∧n=xs.length
 |_=>False
theorem i9:CallR X (.builtin "len") (fun xs H Q=>∃x n,xs=[x]∧GM X.K x H n∧Q (.int n) H):=by
 intro pins s σ H xs us Q I r h
 obtain⟨x,n,rfl,e,q⟩:=h
 obtain⟨u,rfl,rx⟩:=iR r
 have hl:=ri
 have hs:sizeLine=16777216:=sizeLine_eq
 cases x with
 |str y=>
  obtain⟨t,rfl⟩:=rx
  obtain⟨hy,e'⟩:y.length≤sizeLine∧n=y.length:=e
  subst e'
  exact len_str (by omega) ⟨.int _,H,I.tok _,⟨_,rfl⟩,q⟩
 |byt y=>
  obtain⟨t,rfl⟩:=rx
  obtain⟨hy,e'⟩:y.size≤sizeLine∧n=y.size:=e
  subst e'
  exact PySem.W.len_bytes (by omega) ⟨.int _,H,I.tok _,⟨_,rfl⟩,q⟩
 |ref p=>
  cases rx
  have e':(∃xs,SqL X.K H p xs∧n=xs.length)∨∃xs,SqT X.K H p xs∧n=xs.length:=e
  rcases e' with⟨xs,hx,e'⟩|⟨xs,hx,e'⟩
  ·subst e'
   obtain⟨its,r',pl,hz⟩:=I.list hx
   have hlen:=r'.length
   exact Calls.call_len_list pl.isList (by simp only[List.size_toArray];omega) ⟨.int xs.length,H,I.tok _,⟨_,by simp only[List.size_toArray];rw[hlen]⟩,q⟩
  ·subst e'
   obtain⟨its,r',pl,hz⟩:=I.tuple hx
   have hlen:=r'.length
   exact len_tuple pl (by simp only[List.size_toArray];omega) ⟨.int xs.length,H,I.tok _,⟨_,by simp only[List.size_toArray];rw[hlen]⟩,q⟩
 |_=>exact(show False from e).elim
end
end L2
namespace L2
open PySem PySem.Spec PyProof.Rows
structure ObjM (h:Heap) (x dx C:Addr) (mA:Str→Option Value):Prop where
 obj:h.get? x=some (PySem.W.instObj C dx)
 ns:h.Ns1 dx mA
 ne:dx≠x
theorem yY {h:Heap} {dx:Addr} {mA:Str→Option Value} (n:h.Ns1 dx mA):∃od,h.get? dx=some od∧∀name,PySem.W.lookIn name od=some (mA name):=by
 obtain⟨o,es,ep,ho,hd,hk,_,hm⟩:=n
 refine⟨o,ho,fun name=> ?_⟩
 have e:=hm name
 unfold nsFind findBy at e
 rw[←Array.find?_toList] at e
 unfold PySem.W.lookIn
 rw[hd]
 dsimp only
 split
 ·rename_i y q
  rw[q] at e
  exact congrArg some e
 ·rename_i q
  rw[q] at e
  have a:es.toList.any (·.refKey)=false:=by
   rw[List.any_eq_false]
   intro y hy
   obtain⟨z,t,hkey⟩:=hk y (Array.mem_toList_iff.mp hy)
   simp[DictEntry.refKey,hkey]
  have a':¬es.toList.any (·.refKey)=true:=by rw[a];exact Bool.false_ne_true
  rw[if_neg a']
  exact congrArg some e
theorem ObjM.look {h:Heap} {x dx C:Addr} {mA:Str→Option Value} (I:ObjM h x dx C mA):∃od,PySem.W.InstAt h x (PySem.W.instObj C dx) C (some od)∧∀name,PySem.W.lookIn name od=some (mA name):=
 let⟨od,ho,hl⟩:=yY I.ns
 ⟨od,⟨I.obj,rfl,rfl,ho⟩,hl⟩
section
variable {prog:Program} {w:World} {A:Around} {E:Value→Shared→Prop} {s:Shared} {K:PySem.W.Frag} {x dx C f:Addr} {mA:Str→Option Value} {name:Str} {v:Value}
theorem CZ {expr:Bool} {Q:Value→Shared→Prop} (X:K.In s.heap) (I:ObjM s.heap x dx C mA) (hg:PySem.W.plainGet K C name=true) (hh:PySem.W.hasDictIn K C=true)
  (ha:PySem.W.findIn K (.ref C) name=some none) (hv:mA name=some v) (hv':PySem.W.handedIn v=true) (h:Q v {s with toks:=s.toks+1}):
  wpAny (model prog w) A (getAttr (.ref x) name expr) Q E s:=by
 obtain⟨od,J,hl⟩:=I.look
 exact PySem.W.get_value X J (PySem.W.plainGet_of hg).1 (PySem.W.findObj_own hh ha rfl (by rw[hl,hv])) hv' h
theorem Br {pl:Sem Bool} {Q:Value×List Value→Shared→Prop} (X:K.In s.heap) (I:ObjM s.heap x dx C mA) (hg:PySem.W.plainGet K C name=true)
  (hf:PySem.W.findIn K (.ref C) name=some (some (.ref f))) (ht:PySem.W.isFn K (.ref f)=true) (hv:mA name=none) (h:Q (.ref f,[.ref x]) s):
  wpAny (model prog w) A (getMethod (.ref x) name pl) Q E s:=by
 obtain⟨od,J,hl⟩:=I.look
 exact PySem.W.method_fn X J (PySem.W.plainGet_of hg).1 (PySem.W.plainGet_of hg).2 hf (beq_iff_eq.mp ht) (by show(PySem.W.lookIn name od).map (·.isSome)=some false;rw[hl,hv];rfl) h
theorem CT {ns:List Str} {Q:Unit→Shared→Prop} (X:K.In s.heap) (I:ObjM s.heap x dx C mA)
  (hs:PySem.W.findIn K (.ref C) "__setattr__"=some (some (.builtin "object.__setattr__"))) (hp:PySem.W.plainOver K C=true) (ht:PySem.W.takerIn K C name=some none) (hh:PySem.W.hasDictIn K C=true)
  (hw:PySem.Within mA ns) (hsz:ns.length≤sizeLine)
  (h:∀h',ObjM h' x dx C (fun y=>if y=name then some v else mA y)→Heap.SameBut dx s.heap h'→Q () {s with heap:=h',toks:=s.toks+2}):
  wpAny (model prog w) A (setAttr (.ref x) name v) Q E s:=by
 obtain⟨od,J,hl⟩:=I.look
 refine PySem.W.set_plain X J hs (PySem.W.osa_open (s:={s with toks:=s.toks+1}) (r:=none) X J hp ht fun b=> ?_)
 obtain⟨cd,hc,hd'⟩:=PySem.W.any_some hh
 have hx:s.heap.get? x=some ⟨.ref C,some dx,.plain,#[]⟩:=I.obj
 refine wpAny_bind (wpAny_pure (wpAny_bind (wpAny_bind (wpAny_loadPart hx (wpAny_bind (PySem.W.Looks.here (s:={s with toks:=s.toks+1}) (PySem.W.looks_clsIn X hc) ?_))))))
 rw[hd']
 refine wpAny_pure (a:=some dx) (wpAny_bind (wpAny_pure (wpAny_bind ?_)))
 refine wpAny_nsSet1 (s:={s with toks:=s.toks+1}) I.ns fun h' hn2 hs2=> ?_
 obtain⟨oD,esD,epD,hoD,hdD,hcD⟩:=hn2.count (PySem.Within.cons name v hw)
 refine wpAny_bind (wpAny_lookBehind hoD (by rw[hdD];exact pastItsLine_dict (Nat.le_trans hcD (by rw[List.length_cons];omega))) ?_)
 exact wpAny_pure (h _ ⟨(hs2.2 _ (Ne.symm I.ne)).trans I.obj,hn2,I.ne⟩ hs2)
theorem Ae {R:Result→Shared→Prop} {vs:List Value} {kw:List (Str×Value)} (X:K.In s.heap) (hm:PySem.W.makesIn K C=true)
  (hi:PySem.W.findIn K (.ref C) "__init__"=some (some (.ref f))) (hf:PySem.W.typeIn K (.ref f)=some (.type "function"))
  (h:codeAny (model prog w) (A.under (.builtin "type.__call__" ⟨.ref C::vs,kw⟩)) (.call (.ref f) ⟨.ref (s.heap.objs.size+1)::vs,kw⟩) (PySem.W.InitBack (s.heap.objs.size+1) R)
   {s with heap:=(s.heap.push PySem.W.emptyDict).push (PySem.W.instObj C s.heap.objs.size)}):
  codeAny (model prog w) A (.call (.ref C) ⟨vs,kw⟩) R s:=by
 obtain⟨hh,g,d,t,os⟩:=s
 exact PySem.W.make_core (PySem.W.makes_of X hm) (PySem.W.looks_findIn X hi) (fun self=>PySem.W.bind_fn X self hf) (.inl rfl) h
end
noncomputable def ic (f:Str) (v:V):List (Str×V)→List (Str×V)
 |[]=>[(f,v)]
 |(g,x)::r=>if g=f then(g,v)::r else(g,x)::ic f v r
theorem mh (f g:Str) (v:V):∀fs:List (Str×V),(ic f v fs).lookup g=if g=f then some v else fs.lookup g
 |[]=>by
  show List.lookup g [(f,v)]=_
  by_cases h:g=f
  ·have hb:(g==f)=true:=beq_iff_eq.mpr h
   simp only[List.lookup,hb,if_pos h]
  ·have hb:(g==f)=false:=beq_eq_false_iff_ne.mpr h
   simp only[List.lookup,hb,if_neg h]
 |(k,x)::r=>by
  have ih:=mh f g v r
  rw[show ic f v ((k,x)::r)=(if k=f then(k,v)::r else(k,x)::ic f v r) from rfl]
  by_cases hk:k=f
  ·rw[if_pos hk]
   by_cases h:g=k
   ·have hb:(g==k)=true:=beq_iff_eq.mpr h
    simp only[List.lookup,hb,if_pos (h.trans hk)]
   ·have hb:(g==k)=false:=beq_eq_false_iff_ne.mpr h
    simp only[List.lookup,hb,if_neg (fun e:g=f=>h (e.trans hk.symm))]
  ·rw[if_neg hk]
   by_cases h:g=k
   ·have hb:(g==k)=true:=beq_iff_eq.mpr h
    simp only[List.lookup,hb,if_neg (fun e:g=f=>hk (h.symm.trans e))]
   ·have hb:(g==k)=false:=beq_eq_false_iff_ne.mpr h
    simp only[List.lookup,hb]
    exact ih
theorem lG (f:Str) (v:V):∀fs:List (Str×V),f∈(ic f v fs).map (·.1)∧∀g,g∈fs.map (·.1)→g∈(ic f v fs).map (·.1)
 |[]=>⟨by simp[ic],fun g h=>by simp at h⟩
 |(k,x)::r=>by
  obtain⟨i1,i2⟩:=lG f v r
  rw[show ic f v ((k,x)::r)=(if k=f then(k,v)::r else(k,x)::ic f v r) from rfl]
  by_cases hk:k=f
  ·rw[if_pos hk]
   subst hk
   exact⟨by simp,fun g h=>by simpa using h⟩
  ·rw[if_neg hk]
   refine⟨?_,fun g h=> ?_⟩
   ·rw[List.map_cons]
    exact List.mem_cons_of_mem _ i1
   ·rw[List.map_cons] at h⊢
    rcases List.mem_cons.mp h with e|e
    ·exact List.mem_cons.mpr (.inl e)
    ·exact List.mem_cons_of_mem _ (i2 g e)
theorem my (f:Str) (v:V):∀fs:List (Str×V),(ic f v fs).length≤fs.length+1
 |[]=>by simp[ic]
 |(k,x)::r=>by
  have ih:=my f v r
  rw[show ic f v ((k,x)::r)=(if k=f then(k,v)::r else(k,x)::ic f v r) from rfl]
  by_cases hk:k=f
  ·rw[if_pos hk,List.length_cons,List.length_cons];omega
  ·rw[if_neg hk,List.length_cons,List.length_cons];omega
theorem RelO.some_of {v:V} {o:Option Value} (r:RelO (some v) o):∃u,o=some u∧RelV v u:=by
 cases o with
 |none=>exact(show False from r).elim
 |some u=>exact⟨u,rfl,r⟩
theorem RelO.none_of {o:Option Value} (r:RelO none o):o=none:=by
 cases o with
 |none=>rfl
 |some u=>exact(show False from r).elim
theorem yw {v:V} {u:Value} (r:RelV v u):PySem.W.handedIn u=true:=by
 cases v with
 |non=>cases(show u=Value.none from r);rfl
 |bl b=>cases(show u=Value.bool b from r);rfl
 |int i=>obtain⟨t,e⟩:=(show∃t,u=Value.int i t from r);cases e;rfl
 |str x=>obtain⟨t,e⟩:=(show∃t,u=Value.str x t from r);cases e;rfl
 |byt b=>obtain⟨t,e⟩:=(show∃t,u=Value.bytes b t from r);cases e;rfl
 |flt b=>obtain⟨t,e⟩:=(show∃t,u=Value.float b t from r);cases e;rfl
 |ref a=>cases(show u=Value.ref a from r);rfl
 |ty n=>cases(show u=Value.type n from r);rfl
section
variable {P:Program} {w:World} {H H':Hp} {h h':Heap} {a C dx:Addr} {fs fs':List (Str×V)}
theorem ro (hok:HOk P w H h) (e:H a=some (.ins C dx fs)):∃mA,ObjM h a dx C mA∧(∀f,RelO (fs.lookup f) (mA f))∧PySem.Within mA (fs.map (·.1))∧fs.length≤1000∧H dx=some (.own a):=by
 obtain⟨d,z,ne,ob,mA,n,r,q⟩:=(show ObjOk P w H h a (.ins C dx fs) from hok a _ e)
 exact⟨mA,⟨ob,n,ne⟩,r,q,z,d⟩
end
structure Cls (K:PySem.W.Frag) (C:Addr):Prop where
 pg:PySem.W.plainGet K C Str.empty=true
 hd:PySem.W.hasDictIn K C=true
 po:PySem.W.plainOver K C=true
 sa:PySem.W.findIn K (.ref C) "__setattr__"=some (some (.builtin "object.__setattr__"))
theorem Cls.get {K:PySem.W.Frag} {C:Addr} (c:Cls K C) (f:Str):PySem.W.plainGet K C f=true:=c.pg
def NoAttr (K:PySem.W.Frag) (C:Addr) (f:Str):Prop:=PySem.W.findIn K (.ref C) f=some none
theorem NoAttr.taker {K:PySem.W.Frag} {C:Addr} {f:Str} (n:NoAttr K C f):PySem.W.takerIn K C f=some none:=by
 unfold PySem.W.takerIn
 rw[show PySem.W.findIn K (.ref C) f=some none from n]
 rfl
structure Con (K:PySem.W.Frag) (C:Addr) (f:Str) (v:V) (u:Value):Prop where
 at_:PySem.W.findIn K (.ref C) f=some (some u)
 rel:RelV v u
 get:PySem.W.specialIn K u "__get__"=some none
 cp:PySem.W.copiedNames.contains f=false
structure Meth (K:PySem.W.Frag) (C:Addr) (m:Str) (f:Addr):Prop where
 at_:PySem.W.findIn K (.ref C) m=some (some (.ref f))
 fn:PySem.W.isFn K (.ref f)=true
 kp:PySem.W.keepIn K (.ref f)=true
section
variable {X:Cx} {pins:List (Addr×Obj)} {σ:St} {H:Hp} {s:Shared} {a C dx:Addr} {fs:List (Str×V)} {f:Str} {v:V} {A:Around} {E:Value→Shared→Prop}
theorem v4 {b:Bool} {Q:Value→Shared→Prop} (I:Inv X pins σ H s) (e:H a=some (.ins C dx fs)) (c:Cls X.K C) (n:NoAttr X.K C f) (l:fs.lookup f=some v)
  (h:∀u s',Inv X pins σ H s'→RelV v u→Q u s'):wpAny (model X.prog X.w) A (getAttr (.ref a) f b) Q E s:=by
 obtain⟨mA,O,r,_,_,_⟩:=ro I.hok e
 obtain⟨u,hu,ru⟩:=RelO.some_of (v:=v) (o:=mA f) (by rw[←l];exact r f)
 exact CZ I.kIn O (c.get f) c.hd n hu (yw ru) (h u _ (I.tok _) ru)
theorem nV {m:Str} {g:Addr} {pl:Sem Bool} {Q:Value×List Value→Shared→Prop} (I:Inv X pins σ H s) (e:H a=some (.ins C dx fs)) (c:Cls X.K C) (k:Meth X.K C m g) (l:fs.lookup m=none)
  (h:Q (.ref g,[.ref a]) s):wpAny (model X.prog X.w) A (getMethod (.ref a) m pl) Q E s:=by
 obtain⟨mA,O,r,_,_,_⟩:=ro I.hok e
 have hn:mA m=none:=RelO.none_of (by rw[←l];exact r m)
 exact Br I.kIn O (c.get m) k.at_ k.fn hn h
theorem vo {y:V} {u:Value} {Q:Unit→Shared→Prop} (I:Inv X pins σ H s) (e:H a=some (.ins C dx fs)) (c:Cls X.K C) (n:NoAttr X.K C f) (hl:fs.length<1000) (ry:RelV y u)
  (h:∀s',Inv X pins σ (bL H a (.ins C dx (ic f y fs))) s'→Q () s'):wpAny (model X.prog X.w) A (setAttr (.ref a) f u) Q E s:=by
 obtain⟨mA,O,r,wi,_,ho⟩:=ro I.hok e
 have hz:(fs.map (·.1)).length≤sizeLine:=by rw[List.length_map,sizeLine_eq];omega
 refine CT I.kIn O c.sa c.po n.taker c.hd wi hz fun h' O' sb=>h _ ?_
 have hd:∃o,h'.get? dx=some o:=let⟨o,_,_,e',_⟩:=O'.ns;⟨o,e'⟩
 refine I.write (x:=a) (e:=dx) (by rw[e];exact True.intro) (.inr ho) (fun b q hb z=>(sb.2 b hb).trans z) hd ?_
 refine⟨by rw[aX O.ne];exact ho,?_,O.ne,O'.obj,_,O'.ns,fun g=> ?_,fun g hg=> ?_⟩
 ·have:=my f y fs;omega
 ·show RelO ((ic f y fs).lookup g) (if g=f then some u else mA g)
  rw[mh]
  by_cases q:g=f
  ·rw[if_pos q,if_pos q];exact ry
  ·rw[if_neg q,if_neg q];exact r g
 ·by_cases q:g=f
  ·rw[q];exact(lG f y fs).1
  ·refine(lG f y fs).2 g (wi g fun z=>hg ?_)
   show(if g=f then some u else mA g)=none
   rw[if_neg q];exact z
theorem Inv.made (I:Inv X pins σ H s):Inv X pins σ (bL (bL H s.heap.objs.size (.own (s.heap.objs.size+1))) (s.heap.objs.size+1) (.ins C s.heap.objs.size []))
  {s with heap:=(s.heap.push PySem.W.emptyDict).push (PySem.W.instObj C s.heap.objs.size)}:=by
 have e1:(s.heap.push PySem.W.emptyDict).get? s.heap.objs.size=some PySem.W.emptyDict:=Heap.get?_push_size s.heap rfl
 have e2:((s.heap.push PySem.W.emptyDict).push (PySem.W.instObj C s.heap.objs.size)).get? (s.heap.objs.size+1)=some (PySem.W.instObj C s.heap.objs.size):=by
  have:=Heap.get?_push_size (s.heap.push PySem.W.emptyDict) (o:=PySem.W.instObj C s.heap.objs.size) rfl
  rwa [Heap.size_push] at this
 have e3:(s.heap.push PySem.W.emptyDict).Ns s.heap.objs.size (fun _=>none):=⟨PySem.W.emptyDict,#[],_,e1,rfl,(fun e he=>absurd he (by simp)),fun _=>rfl⟩
 have I1:=I.laid (a:=s.heap.objs.size) (o:= .own (s.heap.objs.size+1)) (h':=s.heap.push PySem.W.emptyDict) (t':=s.toks) (fun b u q=>Heap.get?_push_of_some _ q) (Nat.le_refl _) ⟨_,e1⟩
 refine I1.laid (a:=s.heap.objs.size+1) (o:= .ins C s.heap.objs.size []) (t':=s.toks) (fun b u q=>Heap.get?_push_of_some _ q) (Nat.le_of_eq (Heap.size_push _ _)) ?_
 have ne:s.heap.objs.size≠s.heap.objs.size+1:=Nat.ne_of_lt (Nat.lt_succ_self _)
 refine⟨by rw[aX ne,aO],Nat.zero_le _,ne,e2,fun _=>none,(Heap.Ns1.of_empty e3).at fun o q=>Heap.get?_push_of_some _ q,fun _=>True.intro,fun y hy=>absurd rfl hy⟩
theorem CD {prog:Program} {w:World} {env:Env} {e:Expr} {f:Str} {pos:Pos} {s:Shared} {Q:Value→Shared→Prop} (hb:attributeBase e f env (eval e env)=eval e env)
  (h:wpAny (model prog w) A (eval e env) (fun o s₁=>wpAny (model prog w) A (getAttr o f true) Q E s₁) E s):wpAny (model prog w) A (eval (.Attribute e f pos) env) Q E s:=
 Attribute_any_ h (by rw[arm_eval_Attribute,hb])
end
def G7 (K:PySem.W.Frag) (ta:TE) (f:Str):TE:=fun σ H Q=>ta σ H fun x H1=>∃a C dx fs v,x= .ref a∧H1 a=some (.ins C dx fs)∧Cls K C∧NoAttr K C f∧fs.lookup f=some v∧Q v H1
def Gd (K:PySem.W.Frag) (ta tv:TE) (f:Str):TS:=fun D σ H=>tv σ H fun y H1=>ta σ H1 fun x H2=>∃a C dx fs,x= .ref a∧H2 a=some (.ins C dx fs)∧Cls K C∧NoAttr K C f∧fs.length<1000∧
 D.nx σ (bL H2 a (.ins C dx (ic f y fs)))
section
variable {X:Cx} {o e value:Expr} {f:Str} {pos pos' tpos:Pos} {ta tv:TE}
theorem bT (he:PE X e ta) (hb:attributeBase e f X.env (eval e X.env)=eval e X.env):PE X (.Attribute e f pos) (G7 X.K ta f):=by
 intro pins s σ H Q I h
 refine CD hb (dH (he pins s σ H _ I h) fun u s1 ⟨x,H1,I1,rx,a,C,dx,fs,v,ex,ea,c,n,l,q⟩=> ?_)
 subst ex
 obtain rfl:u=Value.ref a:=rx
 exact v4 I1 ea c n l fun u' s2 I2 ru=>⟨v,H1,I2,ru,q⟩
theorem fG (ha:PE X o ta) (hv:PE X value tv) (hs:swapsWith value (some (.Attribute o f pos')) pos.line X.env=pure false):PS X (.Assign [.Attribute o f pos'] value pos) (Gd X.K ta tv f):=by
 intro pins s σ H D I h
 refine plainObj_wpAny_Assign_Attribute (dH (hv pins s σ H _ I h) fun u s1 ⟨y,H1,I1,ry,q⟩=>dH (ha pins s1 σ H1 _ I1 q) fun ov s2 ⟨x,H2,I2,rx,a,C,dx,fs,ex,ea,c,n,l,q2⟩=> ?_) hs
 subst ex
 obtain rfl:ov=Value.ref a:=rx
 exact vo I2 ea c n l ry fun s3 I3=>⟨σ,_,I3,q2⟩
end
section
variable {X:Cx} {pins:List (Addr×Obj)} {σ:St} {H:Hp} {s:Shared} {A:Around} {E:Value→Shared→Prop} {Q:Value→Shared→Prop} {c:Value} {b:Bool}
inductive TyOf (K:PySem.W.Frag) (H:Hp):V→Value→Prop where
 |non:TyOf K H .non (.type "NoneType")
 |bl (x:Bool):TyOf K H (.bl x) (.type "bool")
 |int (i:Int):TyOf K H (.int i) (.type "int")
 |str (x:Str):TyOf K H (.str x) (.type "str")
 |flt (x:UInt64):TyOf K H (.flt x) (.type "float")
 |lst {a:Addr} {xs:List V} (e:H a=some (.lst xs)):TyOf K H (.ref a) (.type "list")
 |frz {a:Addr} {o:Obj} {xs:List V} (e:H a=some (.frz o (.lst xs))):TyOf K H (.ref a) (.type "list")
 |tup {a:Addr} {xs:List V} (e:H a=some (.tup xs)):TyOf K H (.ref a) (.type "tuple")
 |dK {a:Addr} {kvs:List (bJ×V)} (e:H a=some (.dK kvs)):TyOf K H (.ref a) (.type "dict")
 |dT {a:Addr} {kvs:List (List bJ×V)} (e:H a=some (.dT kvs)):TyOf K H (.ref a) (.type "dict")
 |ins {a C dx:Addr} {fs:List (Str×V)} (e:H a=some (.ins C dx fs)) (cl:Cls K C) (ha:PySem.W.findIn K (.ref C) "__class__"=some (some (.builtin "object.__class__")))
   (hn:PySem.W.specialIn K (.builtin "object.__class__") "__get__"=some (some (.builtin "getset_descriptor.__get__"))) (htk:PySem.W.takesIn K (.builtin "object.__class__")=some true)
   (hm:PySem.W.mroIn K C (.type "object")=some true):TyOf K H (.ref a) (.ref C)
end
end L2
namespace L2
open PySem PySem.Spec PyProof.Rows
structure Room (k:Nat) (A:Around):Prop where
 hd:A.handled=none
 dp:A.depth+3*k+5<recursionLimit
 un:A.units+16*k+200<cLine
theorem Room.mono {j k:Nat} {A:Around} (r:Room k A) (h:j≤k):Room j A:=⟨r.hd,by have:=r.dp;omega,by have:=r.un;omega⟩
theorem Room.deeper {k:Nat} {A:Around} (r:Room (k+1) A) (env:Env):Room k (A.deeper env):=
 ⟨r.hd,by have:=r.dp;show A.depth+1+3*k+5<_;omega,by have:=r.un;show A.units+3+16*k+200<_;omega⟩
theorem wj {A:Around} {C:Addr} {us:List Value} {kw:List (Str×Value)}:(A.under (.builtin "type.__call__" ⟨.ref C::us,kw⟩)).depth=A.depth+1:=by
 first|rfl|simp[Around.under,Code.weight,Code.isCreation,Code.isGuard,Code.isCaller,Code.frames,Code.isFrame,guardIds]
theorem vI {A:Around} {C:Addr} {us:List Value} {kw:List (Str×Value)}:(A.under (.builtin "type.__call__" ⟨.ref C::us,kw⟩)).units=A.units+1:=by
 first|rfl|simp[Around.under,Code.cUnits,Code.frames,Code.isFrame]
theorem Room.make {k:Nat} {A:Around} (r:Room (k+1) A) (C:Addr) (us:List Value) (kw:List (Str×Value)):Room k (A.under (.builtin "type.__call__" ⟨.ref C::us,kw⟩)):=
 ⟨r.hd,by have:=r.dp;rw[wj];omega,by have:=r.un;rw[vI];omega⟩
theorem Room.depth {k:Nat} {A:Around} (r:Room k A):A.depth<recursionLimit:=by have:=r.dp;omega
theorem Room.units {k:Nat} {A:Around} (r:Room k A):A.units+64<cLine:=by have:=r.un;omega
def pp:TA:=fun _ H Q=>Q [] H
def j5 (ta:TE) (tr:TA):TA:=fun σ H Q=>ta σ H fun x H1=>tr σ H1 fun xs H2=>Q (x::xs) H2
section
variable {X:Cx} {e:Expr} {es:List Expr} {te:TE} {t:TA} {pos:Pos}
theorem aq:PA X [] pp:=fun _ _ _ _ H Q I h=>Calls.spliced_nil ⟨[],H,I,.nil,h⟩
theorem aa (ha:PE X e te) (hr:PA X es t) (hs:starEach (e::es) X.env=(false,eval e X.env)::starEach es X.env:=by rfl):PA X (e::es) (j5 te t):=by
 intro pos pins s σ H Q I h
 rw[hs]
 show wpAny _ _ (spliced ((false,eval e X.env)::backTo pos (starEach es X.env))) _ _ s
 refine Calls.spliced_cons (dH (ha pins s σ H _ I h) fun u s1 ⟨x,H1,I1,r1,q1⟩=> ?_)
 exact dH (hr pos pins s1 σ H1 _ I1 q1) fun us s2 ⟨xs,H2,I2,r2,q2⟩=>⟨x::xs,H2,I2,.cons r1 r2,q2⟩
def Fm (t:TA):TE:=fun σ H Q=>t σ H fun xs H1=>xs.length≤sizeLine∧∀p,H1 p=none→Q (.ref p) (bL H1 p (.tup xs))
def Ga (t:TA):TE:=fun σ H Q=>t σ H fun xs H1=>xs.length≤sizeLine∧∀p,H1 p=none→Q (.ref p) (bL H1 p (.lst xs))
theorem bN {x1} (h:PA X es t):PE X (.Tuple es x1 pos) (Fm t):=by
 intro pins s σ H Q I hq
 refine wpAny_Tuple_spliced (dH (h pos pins s σ H _ I hq) fun us s1 ⟨xs,H1,I1,r,z,q⟩=>⟨by rw[←r.length];exact z,?_⟩)
 have hf:H1 s1.heap.objs.size=none:=I1.hok.fresh (Nat.le_refl _)
 refine⟨.ref s1.heap.objs.size,bL H1 s1.heap.objs.size (.tup xs),I1.laid (t':=s1.toks) (fun b u e=>Heap.get?_push_of_some _ e) (Nat.le_refl _) ?_,rfl,q _ hf⟩
 exact⟨z,us,r,⟨_,Heap.get?_push_size _ rfl,⟨rfl,_,rfl⟩,rfl⟩⟩
theorem et (h:PA X es t):PE X (.List es pos) (Ga t):=by
 intro pins s σ H Q I hq
 refine wpAny_List_spliced (dH (h pos pins s σ H _ I hq) fun us s1 ⟨xs,H1,I1,r,z,q⟩=>⟨by rw[←r.length];exact z,?_⟩)
 have hf:H1 s1.heap.objs.size=none:=I1.hok.fresh (Nat.le_refl _)
 refine⟨.ref s1.heap.objs.size,bL H1 s1.heap.objs.size (.lst xs),I1.laid (t':=s1.toks) (fun b u e=>Heap.get?_push_of_some _ e) (Nat.le_refl _) ?_,rfl,q _ hf⟩
 exact⟨z,us,0,r,Heap.get?_push_size _ rfl⟩
end
abbrev Sp:=List V→Hp→VK→XK→Prop
abbrev wz:=List Env→Hp→Shared→XK→Value→Shared→Prop
structure Env0 (P:Program) (w:World) (K:PySem.W.Frag) (mg:Str→Option Value) (base:Heap) (A:Around) (outer:List Env) (s:Shared) (H:Hp):Prop where
 frames:A.frames=some outer
 mod:Mod K mg base
 bs:∀b o,base.get? b=some o→s.heap.get? b=some o∧H b=none
 bsz:base.objs.size≤s.heap.objs.size
 funs:s.heap.FunFrames base outer
 frf:∀b∈zh outer,H b=none
 hok:HOk P w H s.heap
 bare:AllBare s.gens
def CE (outer:List Env) (P:Program) (w:World) (H:Hp) (s:Shared) (Q:VK) (u:Value) (s':Shared):Prop:=
 ∃v H',s'.os=s.os∧AllBare s'.gens∧Un (zh outer) [] H H' s.heap s'.heap∧HOk P w H' s'.heap∧RelV v u∧Q v H'
def CR (CX:wz) (outer:List Env) (P:Program) (w:World) (H:Hp) (s:Shared) (Q:VK) (E:XK) (r:Result) (s':Shared):Prop:=
 match r with
 | .ok (.ret u)=>CE outer P w H s Q u s'
 | .ok _=>False
 | .error e=>CX outer H s E e s'
structure FnOk (P:Program) (w:World) (K:PySem.W.Frag) (mg:Str→Option Value) (base:Heap) (CX:wz) (k:Nat) (f:Addr) (fd:FuncData) (ps:List Str) (sp:Sp):Prop where
 len:∀vs H Q E,sp vs H Q E→vs.length=ps.length
 run:∀(A:Around) (outer:List Env) (s:Shared) (H:Hp) (args:Args) (us:List Value) (vs:List V) (Q:VK) (E:XK),Room k A→Env0 P w K mg base A outer s H→BindsTo s fd args (ps.zip us)→Vals vs us→sp vs H Q E→
  codeAny (model P w) A (.call (.ref f) args) (CR CX outer P w H s Q E) s
theorem FnOk.imp {P:Program} {w:World} {K:PySem.W.Frag} {mg:Str→Option Value} {base:Heap} {CX:wz} {k:Nat} {f:Addr} {fd:FuncData} {ps:List Str} {sp sp':Sp} (F:FnOk P w K mg base CX k f fd ps sp)
  (h:∀vs H Q E,sp' vs H Q E→sp vs H Q E):FnOk P w K mg base CX k f fd ps sp':=
 ⟨fun vs H Q E q=>F.len vs H Q E (h _ _ _ _ q),fun A outer s H args us vs Q E hr he hb hv hs=>F.run A outer s H args us vs Q E hr he hb hv (h _ _ _ _ hs)⟩
theorem Env0.make {P:Program} {w:World} {K:PySem.W.Frag} {mg:Str→Option Value} {base:Heap} {A:Around} {outer:List Env} {s:Shared} {H:Hp} (e:Env0 P w K mg base A outer s H) (C:Addr) (us:List Value) (kw:List (Str×Value)):
  Env0 P w K mg base (A.under (.builtin "type.__call__" ⟨.ref C::us,kw⟩)) outer s H:=⟨by first|exact e.frames|(simpa [Around.under,Code.envs,Code.isFrame,pushEnvs] using e.frames),e.mod,e.bs,e.bsz,e.funs,e.frf,e.hok,e.bare⟩
section
variable {X:Cx} {pins:List (Addr×Obj)} {σ:St} {H:Hp} {s s':Shared}
theorem Inv.env0 (I:Inv X pins σ H s):Env0 X.prog X.w X.K X.mg X.base X.A X.stack s H:=
 ⟨I.ok.frames,I.ok.mod,I.bs,Nat.le_trans I.ok.bsz I.sz,I.stack,I.stkFree,I.hok,I.bare⟩
theorem Inv.after {Q:VK} {u:Value} (I:Inv X pins σ H s) (h:CE X.stack X.prog X.w H s Q u s'):EP X pins σ Q u s':=by
 obtain⟨v,H',os,bare,un,hok,r,q⟩:=h
 obtain⟨hh,g,d,t,os'⟩:=s'
 obtain rfl:os'=s.os:=os
 exact⟨v,H',I.call (h':=hh) (g':=g) (d':=d) (t':=t) (ch:=[]) un hok bare (fun b z=>absurd z (by simp)),r,q⟩
end
def qM (sp:Sp) (dvs:List V) (E:XK) (t:TA):TE:=fun σ H Q=>t σ H fun vs H1=>sp (vs++dvs) H1 Q E
def xB (C:Addr) (m:Str) (sp:Sp) (dvs:List V) (E:XK) (ta:TE) (t:TA):TE:=fun σ H Q=>ta σ H fun x H1=>∃a dx fs,x= .ref a∧H1 a=some (.ins C dx fs)∧fs.lookup m=none∧
 t σ H1 fun vs H2=>sp (x::(vs++dvs)) H2 Q E
def AG (C:Addr) (sp:Sp) (dvs:List V) (E:XK) (t:TA):TE:=fun σ H Q=>t σ H fun vs H1=>∀x dx,H1 x=none→H1 dx=none→dx≠x→
 sp (.ref x::(vs++dvs)) (bL (bL H1 dx (.own x)) x (.ins C dx [])) (fun v H2=>v= .non∧Q (.ref x) H2) E
def Binds (K:PySem.W.Frag) (fd:FuncData) (ps:List Str) (ds:List Value):Prop:=
 ∀(s:Shared) (us:List Value),K.In s.heap→(us++ds).length=ps.length→BindsTo s fd ⟨us,[]⟩ (ps.zip (us++ds))
theorem Binds.all {K:PySem.W.Frag} {fd:FuncData} {ps:List Str} (h:∀us:List Value,us.length=ps.length→bindArgs fd ⟨us,[]⟩=pure (ps.zip us)):Binds K fd ps []:=fun s us _ hl=>by
 rw[List.append_nil] at hl⊢
 exact .of_eq (h us hl)
def gM (CX:wz) (X:Cx) (E:XK):Prop:=∀(pins:List (Addr×Obj)) (σ:St) (H:Hp) (s:Shared) (e:Value) (s':Shared),Inv X pins σ H s→CX X.stack H s E e s'→X.xe e s'
section
variable {X:Cx} {CX:wz} {k:Nat} {f C:Addr} {fd:FuncData} {ps:List Str} {sp:Sp} {dvs:List V} {ds:List Value} {E:XK} {x m:Str} {p pos apos:Pos} {e o:Expr} {es:List Expr} {ta:TE} {t:TA}
theorem vC {pins:List (Addr×Obj)} {σ:St} {H:Hp} {s:Shared} {Q:VK} {us:List Value} {vs:List V} (F:FnOk X.prog X.w X.K X.mg X.base CX k f fd ps sp) (hr:Room k X.A) (hb:Binds X.K fd ps ds) (hd:Vals dvs ds) (hx:gM CX X E)
  (I:Inv X pins σ H s) (r:Vals vs us) (h:sp (vs++dvs) H Q E):wpAny (model X.prog X.w) X.A (call (.ref f) us) (EP X pins σ Q) X.xe s:=by
 have r2:Vals (vs++dvs) (us++ds):=r.append hd
 have hl:(us++ds).length=ps.length:=by rw[←r2.length];exact F.len _ _ _ _ h
 refine wpAny_call (codeAny_mono (F.run X.A X.stack s H ⟨us,[]⟩ (us++ds) (vs++dvs) Q E hr I.env0 (hb s us I.kIn hl) r2 h) fun r s' hq=> ?_)
 cases r with
 |error e=>exact hx pins σ H s e s' I hq
 |ok fl=>
  cases fl with
  |ret u=>exact I.after hq
  |next=>exact False.elim hq
  |brk=>exact False.elim hq
  |cont=>exact False.elim hq
theorem Dq (F:FnOk X.prog X.w X.K X.mg X.base CX k f fd ps sp) (hr:Room k X.A) (hg:Gl X x) (hm:X.mg x=some (.ref f)) (hk:PySem.W.keepIn X.K (.ref f)=true) (hb:Binds X.K fd ps ds) (hd:Vals dvs ds) (hx:gM CX X E)
  (ha:PA X (e::es) t) (hdb:(x==("__debug__":Str))=false:=by decide) (he:starEach (e::es) X.env=(false,eval e X.env)::starEach es X.env:=by rfl) (hpl:(backTo pos (starEach es X.env)).any (·.1)=false:=by rfl):
  PE X (.Call (.Name x p) (e::es) [] pos) (qM sp dvs E t):=by
 intro pins s σ H Q I h
 refine wpAny_Call_Name_kw (sA I hg hm ?_ hdb)
 refine PySem.W.callWith_K (h₀:=X.base) I.ok.mod.kin hk (dH (ha pos pins s σ H _ I h) fun us s1 ⟨vs,H1,I1,r,q⟩=>⟨I1.kIn,?_⟩) he hpl
 exact vC F hr hb hd hx I1 r q
theorem CQ {pl:Sem Bool} (he:PE X o ta) (c:Cls X.K C) (hm:Meth X.K C m f) (F:FnOk X.prog X.w X.K X.mg X.base CX k f fd ps sp) (hr:Room k X.A) (hb:Binds X.K fd ps ds) (hd:Vals dvs ds) (hx:gM CX X E) (ha:PA X (e::es) t)
  (d8:starEach (e::es) X.env=(false,eval e X.env)::starEach es X.env:=by rfl) (hpl:(backTo pos (starEach es X.env)).any (·.1)=false:=by rfl)
  (ht:eval (.Call (.Attribute o m apos) (e::es) [] pos) X.env=(do
   let ov←eval o X.env
   standAt apos.atName
   let(f,first)←holding [ov] (getMethod ov m pl)
   callWith pos f first (backTo pos (starEach (e::es) X.env)) (backToKw pos (keywordEach [] X.env))):=by rfl):
  PE X (.Call (.Attribute o m apos) (e::es) [] pos) (xB C m sp dvs E ta t):=by
 intro pins s σ H Q I h
 refine PySem.W.methodCall_KW (pl:=pl) (dH (he pins s σ H _ I h) fun u s1 ⟨x,H1,I1,rx,a,dx,fs,ex,ea,l,q⟩=> ?_) ht
 subst ex
 obtain rfl:u=Value.ref a:=rx
 refine nV I1 ea c hm l ?_
 refine PySem.W.callWith_K (first:=[.ref a]) (h₀:=X.base) I.ok.mod.kin hm.kp (dH (ha pos pins s1 σ H1 _ I1 q) fun us s2 ⟨vs,H2,I2,r,q2⟩=>⟨I2.kIn,?_⟩) d8 hpl
 exact vC (us:= .ref a::us) (vs:= .ref a::vs) F hr hb hd hx I2 (.cons rfl r) q2
theorem zL {pl:Sem Bool} (he:PE X o ta) (c:Cls X.K C) (hm:Meth X.K C m f) (F:FnOk X.prog X.w X.K X.mg X.base CX k f fd ps sp) (hr:Room k X.A) (hb:Binds X.K fd ps ds) (hd:Vals dvs ds) (hx:gM CX X E)
  (ht:eval (.Call (.Attribute o m apos) [] [] pos) X.env=(do
   let ov←eval o X.env
   standAt apos.atName
   let(f,first)←holding [ov] (getMethod ov m pl)
   callWith pos f first (backTo pos (starEach [] X.env)) (backToKw pos (keywordEach [] X.env))):=by rfl):
  PE X (.Call (.Attribute o m apos) [] [] pos) (xB C m sp dvs E ta pp):=by
 intro pins s σ H Q I h
 refine PySem.W.methodCall_KW (pl:=pl) (dH (he pins s σ H _ I h) fun u s1 ⟨x,H1,I1,rx,a,dx,fs,ex,ea,l,q⟩=> ?_) ht
 subst ex
 obtain rfl:u=Value.ref a:=rx
 refine nV I1 ea c hm l ?_
 exact PySem.W.callWith_K0 (first:=[.ref a]) I1.kIn hm.kp (vC (us:=[.ref a]) (vs:=[.ref a]) F hr hb hd hx I1 (.cons rfl .nil) q)
structure Mk (K:PySem.W.Frag) (C f:Addr):Prop where
 makes:PySem.W.makesIn K C=true
 init:PySem.W.findIn K (.ref C) "__init__"=some (some (.ref f))
 fn:PySem.W.isFn K (.ref f)=true
 kp:PySem.W.keepIn K (.ref C)=true
theorem zW {pins:List (Addr×Obj)} {σ:St} {H:Hp} {s:Shared} {Q:VK} {us:List Value} {vs:List V} (M:Mk X.K C f) (F:FnOk X.prog X.w X.K X.mg X.base CX k f fd ps sp) (hr:Room (k+1) X.A) (hb:Binds X.K fd ps ds) (hd:Vals dvs ds)
  (hx:gM CX X E) (I:Inv X pins σ H s) (r:Vals vs us)
  (h:∀x dx,H x=none→H dx=none→dx≠x→sp (.ref x::(vs++dvs)) (bL (bL H dx (.own x)) x (.ins C dx [])) (fun v H2=>v= .non∧Q (.ref x) H2) E):
  wpAny (model X.prog X.w) X.A (call (.ref C) us) (EP X pins σ Q) X.xe s:=by
 have hq:=h (s.heap.objs.size+1) s.heap.objs.size (I.hok.fresh (Nat.le_succ _)) (I.hok.fresh (Nat.le_refl _)) (Nat.ne_of_lt (Nat.lt_succ_self _))
 have I2:=Inv.made (C:=C) I
 have r2:Vals (V.ref (s.heap.objs.size+1)::(vs++dvs)) (Value.ref (s.heap.objs.size+1)::(us++ds)):= .cons rfl (r.append hd)
 have hl:(Value.ref (s.heap.objs.size+1)::us++ds).length=ps.length:=by
  have e:=r2.length
  rw[F.len _ _ _ _ hq] at e
  exact e.symm
 refine wpAny_call (Ae (f:=f) I.kIn M.makes M.init (beq_iff_eq.mp M.fn) (codeAny_mono (F.run _ X.stack _ _ ⟨Value.ref (s.heap.objs.size+1)::us,[]⟩ (Value.ref (s.heap.objs.size+1)::(us++ds)) _ _ E (hr.make C us [])
  (I2.env0.make C us []) (hb _ (Value.ref (s.heap.objs.size+1)::us) I2.kIn hl) r2 hq) fun r s' hq'=> ?_))
 cases r with
 |error e=>exact hx pins σ _ _ e s' I2 hq'
 |ok fl=>
  cases fl with
  |ret u=>
   obtain⟨v,H',I3,rv,ev,q3⟩:=I2.after hq'
   subst ev
   exact⟨rv,⟨V.ref (s.heap.objs.size+1),H',I3,rfl,q3⟩⟩
  |next=>exact False.elim hq'
  |brk=>exact False.elim hq'
  |cont=>exact False.elim hq'
theorem B7 (M:Mk X.K C f) (F:FnOk X.prog X.w X.K X.mg X.base CX k f fd ps sp) (hr:Room (k+1) X.A) (hg:Gl X x) (hm:X.mg x=some (.ref C)) (hb:Binds X.K fd ps ds) (hd:Vals dvs ds) (hx:gM CX X E)
  (ha:PA X (e::es) t) (hdb:(x==("__debug__":Str))=false:=by decide) (he:starEach (e::es) X.env=(false,eval e X.env)::starEach es X.env:=by rfl) (hpl:(backTo pos (starEach es X.env)).any (·.1)=false:=by rfl):
  PE X (.Call (.Name x p) (e::es) [] pos) (AG C sp dvs E t):=by
 intro pins s σ H Q I h
 refine wpAny_Call_Name_kw (sA I hg hm ?_ hdb)
 refine PySem.W.callWith_K (h₀:=X.base) I.ok.mod.kin M.kp (dH (ha pos pins s σ H _ I h) fun us s1 ⟨vs,H1,I1,r,q⟩=>⟨I1.kIn,?_⟩) he hpl
 exact zW M F hr hb hd hx I1 r q
end
section
variable {X:Cx} {CX:wz} {k:Nat} {f C:Addr} {fd:FuncData} {ps ks:List Str} {sp:Sp} {E:XK} {x m:Str} {p pos apos kpos:Pos} {e o:Expr} {es:List Expr} {kws:List Keyword} {te ta:TE} {t tk:TA} {nm:Option Str}
structure KBinds (K:PySem.W.Frag) (fd:FuncData) (ps ks:List Str) (g:List Value→List Value→List Value) (gV:List V→List V→List V):Prop where
 to:∀(s:Shared) (us ws:List Value),K.In s.heap→(g us ws).length=ps.length→BindsTo s fd ⟨us,ks.zip ws⟩ (ps.zip (g us ws))
 rel:∀{vs:List V} {us:List Value} {zs:List V} {ws:List Value},Vals vs us→Vals zs ws→Vals (gV vs zs) (g us ws)
variable {g:List Value→List Value→List Value} {gV:List V→List V→List V}
end
structure FnScope (N P:List Str) (sc:Scope):Prop where
 kind:sc.kind= .function
 co:sc.isCoroutine=false
 gen:sc.isGenerator=false
 nd:N.Nodup
 pre:N.take P.length=P
 par:∀x∈P,sc.names.lookup x=some .local∨sc.names.lookup x=some .cell
 nofree:∀y∈sc.names,y.2≠ .free
theorem qV {kindOf:Str→Option NameKind} {x:Str}:∀{binds:List (Str×Value)} {m:Str→Option Value},(∀v,(x,v)∉binds)→bindL kindOf binds m x=m x
 |[],_,_=>rfl
 |(n,v)::r,m,h=>by
  unfold bindL
  rw[qV fun w hw=>h w (List.mem_cons_of_mem _ hw)]
  split
  ·have:x≠n:=by rintro rfl;exact h v List.mem_cons_self
   simp[this]
  ·rfl
theorem qQ {kindOf:Str→Option NameKind} {x:Str}:∀{binds:List (Str×Value)} {m:Str→Option Value},(∀v,(x,v)∉binds)→bindC kindOf binds m x=m x
 |[],_,_=>rfl
 |(n,v)::r,m,h=>by
  unfold bindC
  rw[qQ fun w hw=>h w (List.mem_cons_of_mem _ hw)]
  split
  ·rfl
  ·have:x≠n:=by rintro rfl;exact h v List.mem_cons_self
   simp[this]
theorem qv {kindOf:Str→Option NameKind} {x:Str} {v:Value}:∀{P:List Str} {vs:List Value} {i:Nat} {m:Str→Option Value},P.Nodup→P[i]? =some x→vs[i]? =some v→kindOf x=some .local→
  bindL kindOf (P.zip vs) m x=some v
 |[],_,_,_,_,h,_,_=>by simp at h
 |_::_,[],_,_,_,_,h,_=>by simp at h
 |p::P,w::vs,0,m,nd,h1,h2,hk=>by
  simp at h1 h2;subst h1;subst h2
  show bindL kindOf ((p,w)::P.zip vs) m p=_
  unfold bindL
  rw[qV fun v hv=>(List.nodup_cons.mp nd).1 (List.of_mem_zip hv).1,if_pos hk]
  simp
 |p::P,w::vs,i+1,m,nd,h1,h2,hk=>by
  show bindL kindOf ((p,w)::P.zip vs) m x=_
  unfold bindL
  exact qv (i:=i) (List.nodup_cons.mp nd).2 (by simpa using h1) (by simpa using h2) hk
theorem pZ {kindOf:Str→Option NameKind} {x:Str} {v:Value}:∀{P:List Str} {vs:List Value} {i:Nat} {m:Str→Option Value},P.Nodup→P[i]? =some x→vs[i]? =some v→kindOf x≠some .local→
  bindC kindOf (P.zip vs) m x=some v
 |[],_,_,_,_,h,_,_=>by simp at h
 |_::_,[],_,_,_,_,h,_=>by simp at h
 |p::P,w::vs,0,m,nd,h1,h2,hk=>by
  simp at h1 h2;subst h1;subst h2
  show bindC kindOf ((p,w)::P.zip vs) m p=_
  unfold bindC
  rw[qQ fun v hv=>(List.nodup_cons.mp nd).1 (List.of_mem_zip hv).1,if_neg hk]
  simp
 |p::P,w::vs,i+1,m,nd,h1,h2,hk=>by
  show bindC kindOf ((p,w)::P.zip vs) m x=_
  unfold bindC
  exact pZ (i:=i) (List.nodup_cons.mp nd).2 (by simpa using h1) (by simpa using h2) hk
noncomputable def start (N:List Str) (vs:List V):St:=vs.map some++List.replicate (N.length - vs.length) none
noncomputable def se (CX:wz) (P:Program) (w:World) (K:PySem.W.Frag) (mg:Str→Option Value) (base:Heap) (N:List Str) (qual:Str) (scope:Scope) (f:Addr) (cd:Value) (A:Around) (outer:List Env) (s:Shared) (H:Hp) (E:XK):Cx where
 prog:=P
 w:=w
 K:=K
 mg:=mg
 base:=base
 A:=A.deeper (envOfC qual scope s.heap.objs.size f cd)
 N:=N
 s₀:=s
 H₀:=H
 env:=envOfC qual scope s.heap.objs.size f cd
 outer:=outer
 stack:=envOfC qual scope s.heap.objs.size f cd::outer
 ex:=[]
 calm:=true
 fn:=fun _=>true
 pn:=[]
 xe:=fun e s'=>wpAny (model P w) (A.deeper (envOfC qual scope s.heap.objs.size f cd)) (leaving (envOfC qual scope s.heap.objs.size f cd) e) (fun _ s''=>CX outer H s E e s'') (fun e' s''=>CX outer H s E e' s'') s'
theorem ve {sc:Scope} {n:Nat} {x:Str} (h:sc.names.lookup x=some .cell):∃c,(cellsFrom n sc.names []).lookup x=some c:=by
 have q:=PySem.W.cellsFrom_some sc.names n [] (.inl h)
 exact Option.isSome_iff_exists.mp q
theorem y9 {CX:wz} {P:Program} {w:World} {K:PySem.W.Frag} {mg:Str→Option Value} {base:Heap} {N ps:List Str} {qual:Str} {scope:Scope} {f:Addr} {cd:Value} {A:Around} {outer:List Env} {s s1:Shared} {H:Hp} {E:XK} {us:List Value} {vs:List V}
  (S:FnScope N ps scope) (hd:A.handled=none) (e0:Env0 P w K mg base A outer s H) (hl:vs.length=ps.length) (r:Vals vs us)
  (x:InCallC s s.heap.objs.size (bindL (envOfC qual scope s.heap.objs.size f cd).kindOf (ps.zip us) fun _=>none) (cellsFrom (s.heap.objs.size+1) scope.names []) (bindC (envOfC qual scope s.heap.objs.size f cd).kindOf (ps.zip us) fun _=>none) s1):
  Inv (se CX P w K mg base N qual scope f cd A outer s H E) [] (start N vs) H s1:=by
 have hpl:ps.length≤N.length:=by have:=congrArg List.length S.pre;rw[List.length_take] at this;omega
 obtain⟨h1,tk,rfl,hk⟩:=x.done
 have noA:∀b:Addr,b∉(se CX P w K mg base N qual scope f cd A outer s H E).ex:=fun b z=>absurd (show b∈([]:List Addr) from z) (by simp)
 refine⟨⟨e0.mod,S.kind,rfl,rfl,Nat.le_refl _,fun y z c h1 h2=> ?_,fun y hy=> ?_,fun y c _ h=> ?_,fun _=>hd,Around.frames_deeper e0.frames,.inr ⟨rfl,rfl⟩,fun b z=>absurd z (noA b),e0.bs,e0.bsz,fun b _ _=>noA b,fun b z=>absurd z (noA b),e0.funs,e0.frf⟩,
  rfl,e0.bare,Un.kept hk,⟨_,x.toInCall.ns,fun i y v h1 h2 h3=> ?_⟩,fun y c h=>⟨_,x.cell y c h⟩,e0.hok.fresh (Nat.le_refl _),fun y c h=> ?_,fun p hp=>absurd (show p∈([]:List (Addr×Obj)) from hp) (by simp),e0.hok.kept hk,?_⟩
 ·exact name_of_addr x.apart (PySem.mem_of_lookup h1) (PySem.mem_of_lookup h2)
 ·have hy:scope.names.lookup y=some .cell∨scope.names.lookup y=some .free:=hy
  rcases hy with hy|hy
  ·exact ve hy
  ·exact absurd rfl (S.nofree _ (PySem.mem_of_lookup hy))
 ·exact Nat.le_of_lt (x.above y c (PySem.mem_of_lookup h))
 ·have hi:i<vs.length:=by
   unfold start at h2
   by_cases hi:i<vs.length
   ·exact hi
   ·rw[List.getElem?_append_right (by simpa using hi)] at h2
    rw[List.getElem?_replicate] at h2
    split at h2<;>cases h2
  have ha:vs[i]? =some v:=by
   unfold start at h2
   rw[List.getElem?_append_left (by simpa using hi),List.getElem?_map] at h2
   cases e:vs[i]? with
   |none=>rw[e] at h2;cases h2
   |some a=>rw[e] at h2;cases h2;rfl
  obtain⟨u,hu,rv⟩:=r.get ha
  have hp:ps[i]? =some y:=by
   rw[←S.pre,List.getElem?_take_of_lt (by omega)];exact h1
  have ndP:ps.Nodup:=by rw[←S.pre];exact S.nd.sublist (List.take_sublist _ _)
  refine⟨u,rv,?_⟩
  rcases S.par y (List.mem_of_getElem? hp) with k|k
  ·exact .inl ⟨k,qv ndP hp hu k⟩
  ·obtain⟨c,e⟩:=ve (n:=s.heap.objs.size+1) k
   refine .inr ⟨.inl k,c,e,?_⟩
   have q:=x.cell y c e
   rw[pZ ndP hp hu (by show scope.names.lookup y≠_;rw[k];decide)] at q
   exact q
 ·exact e0.hok.fresh (Nat.le_of_lt (x.above y c (PySem.mem_of_lookup h)))
 ·unfold start
  show _=N.length
  rw[List.length_append,List.length_map,List.length_replicate]
  omega
theorem Gs {CX:wz} {P:Program} {w:World} {K:PySem.W.Frag} {mg:Str→Option Value} {base:Heap} {k:Nat} {f:Addr} {name qual:Str} {params:Arguments} {body:List Stmt} {scope:Scope} {dV kV doc pm cdv ct oc:Value} {an od:Option Addr}
  {osl:Array (Option Value)} {N ps:List Str} {sp:Sp} (lk:K.lookup f=some ⟨oc,od,.func (PySem.W.fnOf name qual params body scope dV kV doc pm an cdv ct),osl⟩) (hcd:PySem.W.codeIn K cdv qual=true) (S:FnScope N ps scope)
  (len:∀vs H Q E,sp vs H Q E→vs.length=ps.length)
  (hbody:∀(A:Around) (outer:List Env) (s:Shared) (H:Hp) (vs:List V) (Q:VK) (E:XK),Room k (A.deeper (envOfC qual scope s.heap.objs.size f cdv))→sp vs H Q E→
   ∃t,PSs (se CX P w K mg base N qual scope f cdv A outer s H E) body t∧t {nx:=fun _ H'=>Q .non H',rt:=Q} (start N vs) H):
  FnOk P w K mg base CX (k+1) f (PySem.W.fnOf name qual params body scope dV kV doc pm an cdv ct) ps sp:=by
 refine⟨len,fun A outer s H args us vs Q E hr e0 hb r hsp=> ?_⟩
 have hl:=len _ _ _ _ hsp
 have KX:K.In s.heap:=e0.mod.kin.keeps fun b o e=>(e0.bs b o e).1
 have lim:s.heap.NoLimit:=e0.mod.nolimit.keeps fun b o e=>(e0.bs b o e).1
 have hkind:∀y∈ps.zip us,scope.names.lookup y.1=some .local∨(scope.names.lookup y.1=some .cell∧((cellsFrom (s.heap.objs.size+1) scope.names []).lookup y.1).isSome=true):=fun⟨n,v⟩ hy=>by
  rcases S.par n (List.of_mem_zip hy).1 with q|q
  ·exact .inl q
  ·exact .inr ⟨q,PySem.W.cellsFrom_some _ _ _ (.inl q)⟩
 refine codeAny_call_function hr.depth (KX _ _ lk) rfl S.co S.gen rfl (PySem.W.codeRec_of KX hcd) (hb _ _ _ _ ?_)
 refine wpAny_newFunctionEnv_cells S.kind hkind fun env he s1 x=> ?_
 subst he
 refine⟨lim.keeps x.toInCall.keep,codeAny_func ?_⟩
 obtain⟨t,ht,hq⟩:=hbody A outer s H vs Q E (hr.deeper _) hsp
 have I:Inv (se CX P w K mg base N qual scope f cdv A outer s H E) [] (start N vs) H s1:=y9 S hr.hd e0 hl r x
 refine wpAny_mono (ht [] s1 (start N vs) H _ I hq) (fun fl s' hs=> ?_) fun e s' hs=>hs
 have fin:∀{σ':St} {H':Hp} {v:V} {u:Value},Inv (se CX P w K mg base N qual scope f cdv A outer s H E) [] σ' H' s'→RelV v u→Q v H'→CE outer P w H s Q u s':=
  fun{σ' H' v u} J rv q=>⟨v,H',J.os,J.bare,J.base,J.hok,rv,q⟩
 cases fl with
 |ret u=>
  obtain⟨v,σ',H',J,rv,q⟩:=hs
  exact fin J rv q
 |next=>
  obtain⟨σ',H',J,q⟩:=hs
  exact fin (v:=V.non) (u:=Value.none) J rfl q
 |brk=>
  obtain⟨_,_,_,q⟩:=hs
  exact False.elim q
 |cont=>
  obtain⟨_,_,_,q⟩:=hs
  exact False.elim q
end L2
namespace L2
open PySem PySem.Spec PyProof.Rows
section
variable {X:Cx} {x:Str} {p pos:Pos} {e:Expr} {es:List Expr} {t:TA} {id T:String} {r:List V→Hp→VK→Prop}
def CG (r:List V→Hp→VK→Prop) (t:TA):TE:=fun σ H Q=>t σ H fun vs H1=>r vs H1 Q
theorem dW (hc:CallR X (.builtin id) r) (hg:Gl X x) (hm:X.mg x=none) (hv:bootBuiltins x=some (.builtin id)) (ha:PA X (e::es) t) (hn:x≠ "__name__":=by decide) (hdb:(x==("__debug__":Str))=false:=by decide)
  (he:starEach (e::es) X.env=(false,eval e X.env)::starEach es X.env:=by rfl) (hpl:(backTo pos (starEach es X.env)).any (·.1)=false:=by rfl):PE X (.Call (.Name x p) (e::es) [] pos) (CG r t):=by
 intro pins s σ H Q I h
 refine wpAny_Call_Name_kw (lI I hg hm hv ?_ hn hdb)
 exact PyProof.Rows.callWith_builtin1 (dH (ha pos pins s σ H _ I h) fun us s1 ⟨vs,H1,I1,r1,q1⟩=>hc pins s1 σ H1 vs us Q I1 r1 q1) he hpl
theorem eB (hc:CallR X (.type T) r) (hg:Gl X x) (hm:X.mg x=none) (hv:bootBuiltins x=some (.type T)) (ha:PA X (e::es) t) (hn:x≠ "__name__":=by decide) (hdb:(x==("__debug__":Str))=false:=by decide)
  (he:starEach (e::es) X.env=(false,eval e X.env)::starEach es X.env:=by rfl) (hpl:(backTo pos (starEach es X.env)).any (·.1)=false:=by rfl):PE X (.Call (.Name x p) (e::es) [] pos) (CG r t):=by
 intro pins s σ H Q I h
 refine wpAny_Call_Name_kw (lI I hg hm hv ?_ hn hdb)
 exact PyProof.Rows.callWith_type1 (dH (ha pos pins s σ H _ I h) fun us s1 ⟨vs,H1,I1,r1,q1⟩=>hc pins s1 σ H1 vs us Q I1 r1 q1) he hpl
end
end L2
namespace HT
open PySem PyProof.Rows
section
open PySem.SeqAt
open PySem.AutoSeq1 (wpAny_loadPart')
open PySem.MeetsSeq PySem.MeetsSeq2 PySem.MeetsSeq3
end
section
variable {prog:Program} {w:World} {A:Around} {E:Value→Shared→Prop} {s:Shared}
theorem cat_tup {t b:Addr} {vs ws:List Value} {Q:Value→Shared→Prop} (ht:IsTup s.heap t vs.toArray) (hb:IsTup s.heap b ws.toArray) (hv:vs≠[])
  (h1:ws=[]→Q (.ref t) s) (h2:ws≠[]→Q (.ref s.heap.objs.size) {s with heap:=s.heap.push {cls:= .type "tuple",data:= .seq (vs++ws).toArray}})
  (hsz:vs.length+ws.length≤sizeLine):wpAny (model prog w) A (binaryOp .Add (.ref t) (.ref b)) Q E s:=by
 obtain⟨⟨cls,dd,data,sl⟩,ho,hc,n,hd⟩:=id ht
 obtain⟨⟨cls2,dd2,data2,sl2⟩,ho2,hc2,n2,hd2⟩:=id hb
 simp only at hc hd hc2 hd2
 subst hc hd hc2 hd2
 have e:vs.toArray++ws.toArray=(vs++ws).toArray:=by simp
 by_cases hw:ws=[]
 ·exact concat_meets ⟨_,ho,rfl⟩ ⟨_,ho2,rfl⟩ noFill_tuple_add seq_tuple_add PySem.F.slot_tuple_add PySem.F.entry_tuple_add (PySem.F.args_tuple_add_2 _ _)
   (tuple_addW1 t b vs.toArray ws.toArray n n2 dd dd2 sl sl2 (by simpa using hv) (by simp[hw])) ⟨ho,ho2,h1 hw⟩
 ·refine concat_meets ⟨_,ho,rfl⟩ ⟨_,ho2,rfl⟩ noFill_tuple_add seq_tuple_add PySem.F.slot_tuple_add PySem.F.entry_tuple_add (PySem.F.args_tuple_add_2 _ _)
   (tuple_addW2 t b vs.toArray ws.toArray n n2 dd dd2 sl sl2 (by simpa using hv) (by simpa using hw) (by rw[List.size_toArray,List.size_toArray];exact hsz)) ⟨ho,ho2,?_⟩
  rw[e]
  exact h2 hw
noncomputable def sIx (n d:Nat):Option Int→Nat
 |none=>d
 |some v=>if v<0 then(v+(n:Int)).toNat else min v.toNat n
theorem En (n d:Nat) (hd:d≤n) (o:Option Int):sIx n d o≤n:=by
 cases o with
 |none=>exact hd
 |some v=>
  show(if v<0 then(v+(n:Int)).toNat else min v.toNat n)≤n
  by_cases hv:v<0
  ·rw[if_pos hv];omega
  ·rw[if_neg hv];exact Nat.min_le_right _ _
theorem wX (v:Int) (n d:Nat):(if v<0 then max (v+(n:Int)) 0 else min v (n:Int))=((sIx n d (some v):Nat):Int):=by
 show(if v<0 then max (v+(n:Int)) 0 else min v (n:Int))=(((if v<0 then(v+(n:Int)).toNat else min v.toNat n):Nat):Int)
 by_cases hv:v<0
 ·simp only[if_pos hv];omega
 ·simp only[if_neg hv];omega
theorem vU (lo hi:Option Int) (n:Nat):Builtin.Slice.sliceAdjust lo hi 1 (n:Int)=(((sIx n 0 lo:Nat):Int),((sIx n n hi:Nat):Int)):=by
 have h1:¬((1:Int)<0):=by omega
 unfold Builtin.Slice.sliceAdjust
 simp only[h1,if_false]
 refine Prod.ext ?_ ?_
 ·cases lo with
  |none=>rfl
  |some v=>exact wX v n 0
 ·cases hi with
  |none=>rfl
  |some v=>exact wX v n n
theorem wq (i j:Nat):Builtin.Slice.slicePlaces (i:Int) (j:Int) 1=j - i:=by
 unfold Builtin.Slice.slicePlaces
 have h1:(1:Int)>0:=by omega
 simp only[h1,if_true,Int.ediv_one]
 split<;>omega
theorem nR {v:Value} {o:Option Int} {Q:Option Int→Shared→Prop} (p:IsPart v o) (h:Q o s):wpAny (model prog w) A (Builtin.Slice.slicePartIndex v) Q E s:=by
 cases p with
 |none=>exact slicePart_none h
 |int i t=>exact slicePart_int h
theorem lC {sl:Addr} {vl vu:Value} {lo hi:Option Int} {n:Nat} {Q:Int×Int×Nat→Shared→Prop} (hs:s.heap.IsSliceOf sl vl vu .none) (pl:IsPart vl lo) (pu:IsPart vu hi)
  (h:Q (((sIx n 0 lo:Nat):Int),1,sIx n n hi - sIx n 0 lo) s):wpAny (model prog w) A (Builtin.Slice.sliceApplied (.ref sl) (pure (n:Int))) Q E s:=by
 obtain⟨os,hos,hcs,hds⟩:=id hs
 unfold Builtin.Slice.sliceApplied Builtin.Slice.sliceFields
 refine wpAny_bind (wpAny_bind (wpAny_field hos hds (x:=vl) rfl (wpAny_bind (wpAny_field hos hds (x:=vu) rfl (wpAny_bind (wpAny_field hos hds (x:= .none) rfl (wpAny_pure ?_)))))))
 refine wpAny_bind (slicePart_none ?_)
 show wpAny _ _ (if((1:Int)==0)=true then _ else _) _ _ s
 rw[if_neg (by decide)]
 refine wpAny_bind (nR pl (wpAny_bind (nR pu (wpAny_bind (wpAny_pure ?_)))))
 show wpAny _ _ (match Builtin.Slice.sliceAdjust lo hi 1 (n:Int) with|(lo,hi)=>pure (lo,(1:Int),Builtin.Slice.slicePlaces lo hi 1)) _ _ s
 rw[vU lo hi n]
 show wpAny _ _ (pure (((sIx n 0 lo:Nat):Int),(1:Int),Builtin.Slice.slicePlaces ((sIx n 0 lo:Nat):Int) ((sIx n n hi:Nat):Int) 1)) _ _ s
 rw[wq]
 exact wpAny_pure h
theorem Bh (xs:Array Value) (i k:Nat):((List.range k).filterMap fun(m:Nat)=>xs[((i:Int)+(m:Int)*1).toNat]?).toArray=((xs.toList.drop i).take k).toArray:=by
 have e:(fun(m:Nat)=>xs[((i:Int)+(m:Int)*1).toNat]?)=fun m=>xs[i+m]? :=by
  funext m
  have:((i:Int)+(m:Int)*1).toNat=i+m:=by omega
  rw[this]
 rw[e]
 have:=pick_run xs i k
 rw[List.filterMap_map] at this
 have e2:((fun x=>xs[x]?)∘fun x=>i+x)=fun m=>xs[i+m]? :=rfl
 rw[e2] at this
 rw[this]
theorem getItem_tuple_cut {t sl:Addr} {items:Array Value} {vl vu:Value} {lo hi:Option Int} {Q:Value→Shared→Prop} (ht:IsTup s.heap t items) (hs:s.heap.IsSliceOf sl vl vu .none) (pl:IsPart vl lo) (pu:IsPart vu hi)
  (hw:¬(sIx items.size 0 lo=0∧sIx items.size items.size hi=items.size))
  (h:Q (.ref s.heap.objs.size) {s with heap:=s.heap.push {cls:= .type "tuple",data:= .seq ((items.toList.drop (sIx items.size 0 lo)).take (sIx items.size items.size hi - sIx items.size 0 lo)).toArray}})
  (hsz:items.size≤sizeLine):wpAny (model prog w) A (getItem (.ref t) (.ref sl)) Q E s:=by
 have htake:sizeOk (.seq ((items.toList.drop (sIx items.size 0 lo)).take (sIx items.size items.size hi - sIx items.size 0 lo)).toArray):=by
  show((items.toList.drop (sIx items.size 0 lo)).take (sIx items.size items.size hi - sIx items.size 0 lo)).toArray.size≤sizeLine
  rw[List.size_toArray,List.length_take,List.length_drop,Array.length_toList]
  omega
 have hj:sIx items.size items.size hi≤items.size:=En _ _ (Nat.le_refl _) hi
 obtain⟨os,hos,hcs,hds⟩:=id hs
 have hTs:s.TypeIs (.ref sl) "slice":=⟨os,hos,hcs⟩
 unfold getItem
 try with_reducible refine wpAny_holding ?_
 first|refine wpAny_bind (wpAny_pure ?_)|skip
 refine wpAny_bind (wpAny_sequenceKey ht.typeIs (by decide) ?_)
 refine wpAny_bind (wpAny_callSpecial?_slot (name:=Str.ofString "__getitem__") ht.typeIs PyProof.Rows.slot_tuple_getitem
  (wpAny_call_entry PyProof.Rows.slot_tuple_getitem ht.typeIs entry_tuple_getitem ?_ (args_tuple_getitem _ _)))
 show wpAny _ _ (Builtin.Tuple.tupleItemsOf (.ref t)>>=_) _ _ s
 refine wpAny_bind (tupleItemsOf_ ht ?_)
 refine wpAny_bind (wpAny_typeOf hTs ?_)
 rw[if_pos (by decide)]
 refine wpAny_bind (lC hs pl pu ?_)
 have hno:¬((((sIx items.size 0 lo:Nat):Int)==0&&(1:Int)==1&&(sIx items.size items.size hi - sIx items.size 0 lo)==items.size)=true):=by
  intro q
  rw[Bool.and_eq_true,Bool.and_eq_true] at q
  have q1:((sIx items.size 0 lo:Nat):Int)=0:=eq_of_beq q.1.1
  have q2:sIx items.size items.size hi - sIx items.size 0 lo=items.size:=eq_of_beq q.2
  exact hw ⟨by omega,by omega⟩
 show wpAny _ _ (if(((sIx items.size 0 lo:Nat):Int)==0&&(1:Int)==1&&(sIx items.size items.size hi - sIx items.size 0 lo)==items.size)=true then _ else _) _ _ s
 rw[if_neg hno,Bh]
 first
  |exact wpAny_bind (m:=Builtin.Tuple.tupleExact _) (wpAny_newObj_type (wpAny_pure ⟨_,rfl,wpAny_pure h⟩) htake)
  |exact wpAny_bind (m:=Builtin.Tuple.tupleExact _) (wpAny_newObj_type (wpAny_bind (wpAny_pure (wpAny_pure ⟨_,rfl,wpAny_pure h⟩))) htake)
  |exact wpAny_bind (wpAny_bind (m:=Builtin.Tuple.tupleExact _) (wpAny_newObj_type (wpAny_pure (wpAny_pure ⟨_,rfl,wpAny_pure h⟩)) htake))
  |exact wpAny_bind (wpAny_bind (m:=Builtin.Tuple.tupleExact _) (wpAny_newObj_type (wpAny_pure ⟨_,rfl,wpAny_pure h⟩) htake))
end
end HT
namespace L2
open PySem PySem.Spec PyProof.Rows
abbrev TO:=St→Hp→(Option Int→Hp→Prop)→Prop
def PO (X:Cx) (e:Option Expr) (t:TO):Prop:=
 ∀(pins:List (Addr×Obj)) (s:Shared) (σ:St) (H:Hp) (Q:Option Int→Hp→Prop),Inv X pins σ H s→t σ H Q→
  wpAny (model X.prog X.w) X.A (evalPart e X.env) (fun u s'=>∃o H',Inv X pins σ H' s'∧IsPart u o∧Q o H') X.xe s
noncomputable def DJ (t:TE):TO:=fun σ H Q=>t σ H fun x H1=>∃i,x= .int i∧Q (some i) H1
theorem iw {ns:List Int}:∀{us:List Value},Vals (ns.map V.int) us→IntsAre us ns:=by
 induction ns with
 |nil=>intro us r;rw[List.map_nil] at r;cases r;exact .nil
 |cons n ns ih=>
  intro us r
  rw[List.map_cons] at r
  cases r with
  |cons r1 r2=>
   obtain⟨t,e⟩:=r1
   subst e
   exact .cons n t (ih r2)
section
variable {X:Cx} {e:Expr} {te:TE} {lo hi:Option Expr} {tl th:TO} {pos p2:Pos}
theorem xW (h:PE X e te):PO X (some e) (DJ te):=by
 intro pins s σ H Q I hw
 rw[evalPart_some]
 refine dH (h pins s σ H _ I hw) fun u s1 ⟨x,H1,I1,r1,q1⟩=> ?_
 obtain⟨i,rfl,q⟩:=q1
 obtain⟨t,rfl⟩:=r1
 exact⟨some i,H1,I1,.int i t,q⟩
def Hh (X:Cx) (r:V→Option Int→Option Int→Hp→VK→Prop):Prop:=
 ∀(pins:List (Addr×Obj)) (s:Shared) (σ:St) (H:Hp) (x:V) (v vl vu:Value) (lo hi:Option Int) (sl:Addr) (Q:VK),Inv X pins σ H s→RelV x v→s.heap.IsSliceOf sl vl vu .none→IsPart vl lo→IsPart vu hi→r x lo hi H Q→
  ∃T id,typeLookup (.type T) "__getitem__"=pure (some (.builtin id))∧s.TypeIs v T∧wpAny (model X.prog X.w) X.A (getItem v (.ref sl)) (EP X pins σ Q) X.xe s
def Ij (r:V→Option Int→Option Int→Hp→VK→Prop) (te:TE) (tl th:TO):TE:=fun σ H Q=>te σ H fun x H1=>tl σ H1 fun l H2=>th σ H2 fun u H3=>r x l u H3 Q
theorem An {r:V→Option Int→Option Int→Hp→VK→Prop} (hr:Hh X r) (he:PE X e te) (hl:PO X lo tl) (hu:PO X hi th):PE X (.Subscript e (.Slice lo hi none p2) pos) (Ij r te tl th):=by
 intro pins s σ H Q I h
 refine Subscript_ (dH (he pins s σ H _ I h) fun v s1 ⟨x,H1,I1,r1,q1⟩=> ?_)
 refine wpAny_Slice (dH (hl pins s1 σ H1 _ I1 q1) fun vl s2 ⟨l,H2,I2,pl,q2⟩=>dH (hu pins s2 σ H2 _ I2 q2) fun vu s3 ⟨u,H3,I3,pu,q3⟩=> ?_)
 rw[evalPart_none]
 refine wpAny_pure ?_
 have I4:Inv X pins σ H3 {s3 with heap:=s3.heap.push {cls:= .type "slice",data:= .fields #[vl,vu,.none]}}:=I3.kept (t':=s3.toks) fun b ob q=>Heap.get?_push_of_some _ q
 obtain⟨T,id,hT,ht,hg⟩:=hr pins {s3 with heap:=s3.heap.push {cls:= .type "slice",data:= .fields #[vl,vu,.none]}} σ H3 x v vl vu l u s3.heap.objs.size Q I4 r1 (Heap.IsSliceOf.new ..) pl pu q3
 show wpAny (model X.prog X.w) X.A (subscriptTail e (.Slice lo hi none p2) v (.ref s3.heap.objs.size)) (EP X pins σ Q) X.xe {s3 with heap:=s3.heap.push {cls:= .type "slice",data:= .fields #[vl,vu,.none]}}
 exact tail_any (ops:=[.ref s3.heap.objs.size,v]) ht hT hg (by with_unfolding_all rfl)
noncomputable def uY (xs:List V) (lo hi:Option Int):List V:=(xs.drop (HT.sIx xs.length 0 lo)).take (HT.sIx xs.length xs.length hi - HT.sIx xs.length 0 lo)
theorem mE (xs:List V) (lo hi:Option Int):(uY xs lo hi).length≤xs.length:=by
 unfold uY
 rw[List.length_take,List.length_drop]
 omega
def G4 (K:PySem.W.Frag):V→Option Int→Option Int→Hp→VK→Prop:=fun x lo hi H Q=>∃a xs,x= .ref a∧SqT K H a xs∧
 ¬(HT.sIx xs.length 0 lo=0∧HT.sIx xs.length xs.length hi=xs.length)∧∀p,H p=none→Q (.ref p) (bL H p (.tup (uY xs lo hi)))
theorem Fv:Hh X (G4 X.K):=by
 intro pins s σ H x v vl vu lo hi sl Q I rx hs pl pu h
 obtain⟨a,xs,rfl,hx,hw,q⟩:=h
 cases rx
 obtain⟨its,r,ht,hz⟩:=I.tuple hx
 have hlen:its.toArray.size=xs.length:=by rw[List.size_toArray];exact r.length.symm
 refine⟨"tuple",_,PyProof.Rows.slot_tuple_getitem.lookup,ht.typeIs,?_⟩
 refine HT.getItem_tuple_cut ht hs pl pu (by rw[hlen];exact hw) ?_ (by rw[hlen];exact hz)
 rw[hlen]
 refine⟨.ref s.heap.objs.size,_,I.laid (t':=s.toks) (o:= .tup (uY xs lo hi)) (fun b ob q=>Heap.get?_push_of_some _ q) (Nat.le_refl _) ?_,rfl,q _ (I.hok.fresh (Nat.le_refl _))⟩
 exact⟨Nat.le_trans (mE xs lo hi) hz,_,(r.drop (HT.sIx xs.length 0 lo)).take (HT.sIx xs.length xs.length hi - HT.sIx xs.length 0 lo),TupX.new _ _⟩
def DW (K:PySem.W.Frag):R2:=fun x y H Q=>∃a b xs ys,x= .ref a∧y= .ref b∧SqT K H a xs∧SqT K H b ys∧xs≠[]∧xs.length+ys.length≤sizeLine∧
 (ys=[]→Q (.ref a) H)∧(ys≠[]→∀p,H p=none→Q (.ref p) (bL H p (.tup (xs++ys))))
theorem Vals.nil_iff {xs:List V} {us:List Value} (r:Vals xs us):us=[]↔xs=[]:=by
 cases r with
 |nil=>simp
 |cons _ _=>simp
theorem Cp:OpR X (binaryOp .Add) (DW X.K):=by
 intro pins s σ H x y v u Q I rx ry h
 obtain⟨a,b,xs,ys,rfl,rfl,ha,hb,hx,hz,q1,q2⟩:=h
 cases rx
 cases ry
 obtain⟨its,r1,p1,_⟩:=I.tuple ha
 obtain⟨its2,r2,p2,_⟩:=I.tuple hb
 refine HT.cat_tup p1 p2 (fun z=>hx (r1.nil_iff.mp z)) (fun z=>⟨.ref a,H,I,rfl,q1 (r2.nil_iff.mp z)⟩) (fun z=> ?_) (by rw[←r1.length,←r2.length];exact hz)
 refine⟨.ref s.heap.objs.size,_,I.laid (t':=s.toks) (o:= .tup (xs++ys)) (fun b ob q=>Heap.get?_push_of_some _ q) (Nat.le_refl _) ?_,rfl,q2 (fun w=>z (r2.nil_iff.mpr w)) _ (I.hok.fresh (Nat.le_refl _))⟩
 exact⟨by rw[List.length_append];exact hz,_,r1.append r2,TupX.new _ _⟩
end
end L2
namespace L2
open PySem PySem.Spec PyProof.Rows
noncomputable def DI (n:Nat) (i:Int):Option Nat:=if 0≤i then(if i<n then some i.toNat else none) else if -(n:Int)≤i then some (i+n).toNat else none
noncomputable def l8 {α:Type} (xs:List α) (i:Int):Option α:=(DI xs.length i).bind fun j=>xs[j]?
theorem Cq {n:Nat} {i:Int} {j:Nat} (h:DI n i=some j):seqIndex? i n=some j∧j<n∧ -(n:Int)≤i∧i<n:=by
 unfold DI at h
 by_cases h0:0≤i
 ·rw[if_pos h0] at h
  by_cases h1:i<n
  ·rw[if_pos h1] at h
   have e:i.toNat=j:=Option.some.inj h
   exact⟨by rw[seqIndex_of h0 h1,e],by omega,by omega,h1⟩
  ·rw[if_neg h1] at h;cases h
 ·rw[if_neg h0] at h
  by_cases h1: -(n:Int)≤i
  ·rw[if_pos h1] at h
   have e:(i+n).toNat=j:=Option.some.inj h
   exact⟨by rw[seqIndex_neg (by omega) h1,e],by omega,h1,by omega⟩
  ·rw[if_neg h1] at h;cases h
theorem rF {α:Type} {xs:List α} {i:Int} {v:α} (h:l8 xs i=some v):∃j,seqIndex? i xs.length=some j∧xs[j]? =some v∧j<xs.length∧ -(xs.length:Int)≤i∧i<xs.length:=by
 unfold l8 at h
 cases e:DI xs.length i with
 |none=>rw[e] at h;cases h
 |some j=>
  rw[e] at h
  obtain⟨h1,h2,h3,h4⟩:=Cq e
  exact⟨j,h1,h,h2,h3,h4⟩
theorem xg {α:Type} {xs:List α} {j:Nat} {v:α} (h:xs[j]? =some v):l8 xs (j:Int)=some v:=by
 have hj:j<xs.length:=(List.getElem?_eq_some_iff.mp h).1
 have e:DI xs.length (j:Int)=some j:=by
  unfold DI
  rw[if_pos (by omega),if_pos (by omega)];simp
 unfold l8;rw[e];exact h
def Dn (b:Expr):Prop:=∀o i,subscripted b false o i=operate [o,i] (getItem o i)
def IxR (X:Cx) (r:R2):Prop:=
 ∀(value slice:Expr) (pins:List (Addr×Obj)) (s:Shared) (σ:St) (H:Hp) (x y:V) (v u:Value) (Q:VK),Inv X pins σ H s→RelV x v→RelV y u→r x y H Q→
  subscripted slice false v u=operate [v,u] (getItem v u)→wpAny (model X.prog X.w) X.A (subscriptTail value slice v u) (EP X pins σ Q) X.xe s
def HM (X:Cx) (id:String) (r:V→List V→Hp→VK→Prop):Prop:=
 ∀(pins:List (Addr×Obj)) (s:Shared) (σ:St) (H:Hp) (x:V) (xs:List V) (v:Value) (us:List Value) (Q:VK),Inv X pins σ H s→RelV x v→Vals xs us→r x xs H Q→
  wpAny (model X.prog X.w) X.A (call (.builtin id) (v::us)) (EP X pins σ Q) X.xe s
section
variable {X:Cx} {a b:Expr} {ta tb:TE} {pos:Pos}
theorem IxR.or {r r':R2} (h:IxR X r) (h':IxR X r'):IxR X (fun x y H Q=>r x y H Q∨r' x y H Q):=by
 intro value slice pins s σ H x y v u Q I rx ry q hs
 rcases q with q|q
 ·exact h value slice pins s σ H x y v u Q I rx ry q hs
 ·exact h' value slice pins s σ H x y v u Q I rx ry q hs
theorem aR {r:R2} (hr:IxR X r) (ha:PE X a ta) (hb:PE X b tb) (hs:Dn b):PE X (.Subscript a b pos) (Fx r ta tb):=by
 intro pins s σ H Q I h
 exact Subscript_ (Ew ha hb I h fun v u s2 x y H2 I2 rx ry q=>hr a b pins s2 σ H2 x y v u Q I2 rx ry q (hs _ _))
def Gk (K:PySem.W.Frag):R2:=fun x y H Q=>∃p xs i v,x= .ref p∧y= .int i∧SqL K H p xs∧l8 xs i=some v∧Q v H
def GS (K:PySem.W.Frag):R2:=fun x y H Q=>∃p xs i v,x= .ref p∧y= .int i∧SqT K H p xs∧l8 xs i=some v∧Q v H
def GK:R2:=fun x y H Q=>∃z i c,x= .str z∧y= .int i∧z.length≤sizeLine∧l8 z.cps.toList i=some c∧Q (.str ⟨#[c]⟩) H
theorem BS:IxR X (Gk X.K):=by
 intro value slice pins s σ H x y v u Q I rx ry h hs
 obtain⟨p,xs,i,z,rfl,rfl,hq,he,q⟩:=h
 cases rx
 obtain⟨t,rfl⟩:=ry
 obtain⟨its,r,pl,hz⟩:=I.list hq
 obtain⟨j,h1,h2,h3,h4,h5⟩:=rF he
 obtain⟨w,ew,rw'⟩:=r.get h2
 have hl:=r.length
 have hn:=ri
 have fin:EP X pins σ Q w s:=⟨z,H,I,rw',q⟩
 by_cases h0:0≤i
 ·have hj:i.toNat=j:=by
   rw[seqIndex_of h0 h5] at h1
   exact Option.some.inj h1
  exact item_listR pl.isList h0 (by omega) (by rw[hj];simpa using ew) fin hs
 ·have hj:(i+(its.toArray.size:Int)).toNat=j:=by
   rw[seqIndex_neg (by omega) h4] at h1
   rw[List.size_toArray,←hl]
   exact Option.some.inj h1
  exact subscriptTail_builtinR (x:=w) pl.isList.typeIs slot_list_getitem.lookup
   (wpAny_getItem_list_neg (Q:=fun r s'=>r=w∧EP X pins σ Q r s') pl.isList (by omega) (by rw[List.size_toArray]<;>omega) (by omega) (by rw[hj];simpa using ew) ⟨rfl,fin⟩) hs
theorem EE:IxR X (GS X.K):=by
 intro value slice pins s σ H x y v u Q I rx ry h hs
 obtain⟨p,xs,i,z,rfl,rfl,hq,he,q⟩:=h
 cases rx
 obtain⟨t,rfl⟩:=ry
 obtain⟨its,r,pl,hz⟩:=I.tuple hq
 obtain⟨j,h1,h2,h3,h4,h5⟩:=rF he
 obtain⟨w,ew,rw'⟩:=r.get h2
 have hl:=r.length
 have hn:=ri
 have fin:EP X pins σ Q w s:=⟨z,H,I,rw',q⟩
 exact subscriptTail_builtinR (x:=w) pl.typeIs slot_tuple_getitem.lookup
  (getItem_tuple (j:=j) (Q:=fun r s'=>r=w∧EP X pins σ Q r s') pl (by omega) (by omega) (by rw[List.size_toArray,←hl];exact h1) (by simpa using ew) ⟨rfl,fin⟩) hs
theorem Ep:IxR X GK:=by
 intro value slice pins s σ H x y v u Q I rx ry h hs
 obtain⟨z,i,c,rfl,rfl,hz,he,q⟩:=h
 obtain⟨t,rfl⟩:=rx
 obtain⟨t',rfl⟩:=ry
 obtain⟨j,h1,h2,h3,h4,h5⟩:=rF he
 have hl:z.cps.toList.length=z.length:=by simp[Str.length]
 rw[hl] at h1 h4 h5
 have hn:=ri
 exact tail_any (typeIs_str s z t) slot_str_getitem.lookup (getItem_str (c:=c) (by
  have e1:decide (i< -(2^63:Int))=false:=decide_eq_false (by omega)
  have e2:decide (i≥2^63)=false:=decide_eq_false (by omega)
  rw[e1,e2,Bool.or_false]) (by rw[h1];simpa using h2) ⟨.str ⟨#[c]⟩,H,I.tok _,⟨_,rfl⟩,q⟩) hs
def Hm (K:PySem.W.Frag):R2:=fun x y H Q=>Gk K x y H Q∨GS K x y H Q∨GK x y H Q
theorem aI:IxR X (Hm X.K):=BS.or (EE.or Ep)
theorem rU (lo hi:Option Int) (n:Nat):(sliceBounds lo hi none n).1=((HT.sIx n 0 lo:Nat):Int)∧(sliceBounds lo hi none n).2.1=((HT.sIx n n hi:Nat):Int)∧(sliceBounds lo hi none n).2.2=1:=by
 refine⟨?_,?_,rfl⟩
 ·cases lo with
  |none=>simp[sliceBounds,HT.sIx]
  |some i=>
   simp only[sliceBounds,HT.sIx,Option.getD_none,show(1:Int)>0 by decide,if_true]
   by_cases h:i<0
   ·simp only[h,if_true]<;>omega
   ·simp only[h,if_false]<;>omega
 ·cases hi with
  |none=>simp[sliceBounds,HT.sIx]
  |some i=>
   simp only[sliceBounds,HT.sIx,Option.getD_none,show(1:Int)>0 by decide,if_true]
   by_cases h:i<0
   ·simp only[h,if_true]<;>omega
   ·simp only[h,if_false]<;>omega
theorem pP (its:List Value) (lo hi:Option Int):slicePick its.toArray lo hi none=((its.drop (HT.sIx its.length 0 lo)).take (HT.sIx its.length its.length hi - HT.sIx its.length 0 lo)).toArray:=by
 obtain⟨h1,h2,h3⟩:=rU lo hi its.toArray.size
 unfold slicePick
 rw[h1,h2,h3]
 simp only[sliceRange_one,pick_run,List.size_toArray]<;>rfl
def G8 (K:PySem.W.Frag):V→Option Int→Option Int→Hp→VK→Prop:=fun x lo hi H Q=>∃a xs,x= .ref a∧SqL K H a xs∧∀p,H p=none→Q (.ref p) (bL H p (.lst (uY xs lo hi)))
theorem Ct:Hh X (G8 X.K):=by
 intro pins s σ H x v vl vu lo hi sl Q I rx hs pl pu h
 obtain⟨a,xs,rfl,hx,q⟩:=h
 cases rx
 obtain⟨its,r,ht,hz⟩:=I.list hx
 have hlen:=r.length
 refine⟨"list",_,slot_list_getitem.lookup,ht.isList.typeIs,?_⟩
 refine wpAny_getItem_list_slice ht.isList hs pl pu .none (by simp) ?_ (by rw[List.size_toArray]<;>omega)
 rw[pP,←hlen]
 refine⟨.ref s.heap.objs.size,_,I.laid (t':=s.toks) (o:= .lst (uY xs lo hi)) (fun b ob q=>Heap.get?_push_of_some _ q) (Nat.le_refl _) ?_,rfl,q _ (I.hok.fresh (Nat.le_refl _))⟩
 exact⟨Nat.le_trans (mE xs lo hi) hz,_,0,(r.drop (HT.sIx xs.length 0 lo)).take (HT.sIx xs.length xs.length hi - HT.sIx xs.length 0 lo),Heap.get?_push_size _ rfl⟩
theorem CallR.or {f:Value} {r r':List V→Hp→VK→Prop} (h:CallR X f r) (h':CallR X f r'):CallR X f (fun xs H Q=>r xs H Q∨r' xs H Q):=by
 intro pins s σ H xs us Q I rs q
 rcases q with q|q
 ·exact h pins s σ H xs us Q I rs q
 ·exact h' pins s σ H xs us Q I rs q
theorem sJ:CallR X (.type "list") (fun xs H Q=>∃p ys,xs=[.ref p]∧(SqL X.K H p ys∨SqT X.K H p ys)∧∀l,H l=none→Q (.ref l) (bL H l (.lst ys))):=by
 intro pins s σ H xs us Q I r h
 obtain⟨p,ys,rfl,hq,q⟩:=h
 obtain⟨u,rfl,rx⟩:=iR r
 cases rx
 have fin:∀(its:List Value),Vals ys its→ys.length≤sizeLine→∀(h':Heap) (c':Nat),(∀b o',s.heap.get? b=some o'→h'.get? b=some o')→
   h'.get? s.heap.objs.size=some {cls:= .type "list",dict:=none,data:= .seq its.toArray c',slots:= #[]}→EP X pins σ Q (.ref s.heap.objs.size) {s with heap:=h'}:=fun its r' hz h' c' kp e=>
  ⟨.ref s.heap.objs.size,_,I.laid (t':=s.toks) kp (Nat.le_refl _) (show ObjOk X.prog X.w _ h' _ (.lst ys) from⟨hz,its,c',r',e⟩),rfl,q _ (I.hok.fresh (Nat.le_refl _))⟩
 rcases hq with hq|hq
 ·obtain⟨its,r',pl,hz⟩:=I.list hq
  have hlen:=r'.length
  obtain⟨o,ho,hc,n,hd⟩:=pl.isList
  exact call_list_seq p (.inl rfl) ho hc hd (fun h' c' kp e=>fin its r' hz h' c' kp e) (by simp only[List.size_toArray]<;>omega)
 ·obtain⟨its,r',pl,hz⟩:=I.tuple hq
  have hlen:=r'.length
  obtain⟨o,ho,hc,n,hd⟩:=pl
  exact call_list_seq p (.inr rfl) ho hc hd (fun h' c' kp e=>fin its r' hz h' c' kp e) (by simp only[List.size_toArray]<;>omega)
theorem fK:CallR X (.type "tuple") (fun xs H Q=>∃p ys,xs=[.ref p]∧((SqL X.K H p ys∧∀l,H l=none→Q (.ref l) (bL H l (.tup ys)))∨(SqT X.K H p ys∧Q (.ref p) H))):=by
 intro pins s σ H xs us Q I r h
 obtain⟨p,ys,rfl,h⟩:=h
 obtain⟨u,rfl,rx⟩:=iR r
 cases rx
 rcases h with⟨hq,q⟩|⟨hq,q⟩
 ·obtain⟨its,r',pl,hz⟩:=I.list hq
  have hlen:=r'.length
  refine call_tuple_list pl.isList (fun h' kp=> ?_) (by simp only[List.size_toArray]<;>omega)
  have I1:Inv X pins σ H {s with heap:=h'}:=I.kept (t':=s.toks) kp
  have I2:Inv X pins σ (bL H h'.objs.size (.tup ys)) {s with heap:=h'.push {cls:= .type "tuple",data:= .seq its.toArray}}:=
   I1.laid (t':=s.toks) (fun b o e=>Heap.get?_push_of_some _ e) (Nat.le_refl _) (show ObjOk X.prog X.w _ _ _ (.tup ys) from⟨hz,its,r',TupX.new _ _⟩)
  exact⟨.ref h'.objs.size,_,I2,rfl,q _ (I1.hok.fresh (Nat.le_refl _))⟩
 ·obtain⟨its,r',pl,hz⟩:=I.tuple hq
  exact call_tuple_same pl ⟨.ref p,H,I,rfl,q⟩
def HR (K:PySem.W.Frag) (T:String) (x:V) (H:Hp):Prop:=match x with
 | .str _=>T= "str"
 | .int _=>T= "int"
 | .ref p=>(T= "list"∧∃xs,SqL K H p xs)∨(T= "tuple"∧∃o,K.lookup p=some o∧o.cls= .type "tuple"∧o.dict=none)∨
   (T= "dict"∧((∃kvs,H p=some (.dK kvs))∨∃kvs,H p=some (.dT kvs)))∨(T= "set"∧∃S n,H p=some (.set S n))
 |_=>False
theorem AC {pins:List (Addr×Obj)} {σ:St} {H:Hp} {s:Shared} {T:String} {x:V} {v:Value} (I:Inv X pins σ H s) (r:RelV x v) (ty:HR X.K T x H):
  s.TypeIs v T∧∀a,v= .ref a→∃ob,s.heap.get? a=some ob∧ob.dict=none:=by
 cases x with
 |str z=>
  obtain⟨t,rfl⟩:=r
  cases(show T= "str" from ty)
  exact⟨typeIs_str s z t,fun _ e=>nomatch e⟩
 |int i=>
  obtain⟨t,rfl⟩:=r
  cases(show T= "int" from ty)
  exact⟨typeIs_int s i t,fun _ e=>nomatch e⟩
 |ref p=>
  cases r
  rcases ty with⟨rfl,xs,hq⟩|⟨rfl,o,hk,hc,hd⟩|⟨rfl,hk⟩|⟨rfl,S,n,hk⟩
  ·obtain⟨its,_,pl,_⟩:=I.list hq
   refine⟨pl.isList.typeIs,fun a e=> ?_⟩
   cases e
   obtain⟨o,n,e,c,hd,_⟩:=pl
   exact⟨o,e,hd⟩
  ·refine⟨⟨o,I.kIn p o hk,hc⟩,fun a e=> ?_⟩
   cases e
   exact⟨o,I.kIn _ o hk,hd⟩
  ·have z:∃o,s.heap.get? p=some o∧o.ExactDict:=by
    rcases hk with⟨kvs,hk⟩|⟨kvs,hk⟩
    ·obtain⟨_,_,_,_,o,_,_,e,ex,_⟩:=I.hok p _ hk
     exact⟨o,e,ex⟩
    ·obtain⟨_,_,_,_,o,_,_,e,ex,_⟩:=I.hok p _ hk
     exact⟨o,e,ex⟩
   obtain⟨o,e,ex⟩:=z
   refine⟨⟨o,e,ex.1⟩,fun a e2=> ?_⟩
   cases e2
   exact⟨o,e,ex.2.1⟩
  ·obtain⟨o,_,_,_,e,ex,_⟩:=I.hok p _ hk
   refine⟨⟨o,e,ex.1⟩,fun a e2=> ?_⟩
   cases e2
   exact⟨o,e,ex.2.1⟩
 |_=>exact False.elim ty
def FL (K:PySem.W.Frag) (T:String) (r:V→List V→Hp→VK→Prop) (to:TE):TE:=fun σ H Q=>to σ H fun x H1=>HR K T x H1∧r x [] H1 Q
def HC (K:PySem.W.Frag) (T:String) (r:V→List V→Hp→VK→Prop) (to:TE) (t:TA):TE:=fun σ H Q=>to σ H fun x H1=>HR K T x H1∧t σ H1 fun xs H2=>r x xs H2 Q
variable {o e:Expr} {es:List Expr} {to:TE} {t:TA} {name:Str} {apos cpos:Pos} {T id:String} {r:V→List V→Hp→VK→Prop}
theorem re (pa:PlainAttrs T) (slot:Slot T name id) (hty:typeOf (.builtin id)=pure (.type "method_descriptor")) (hm:HM X id r) (ho:PE X o to)
  (hbase:attributeBase o name X.env (eval o X.env)=eval o X.env:=by rfl) (hline:(apos.endLine==cpos.line)=true:=by rfl):PE X (.Call (.Attribute o name apos) [] [] cpos) (FL X.K T r to):=by
 intro pins s σ H Q I h
 refine wpAny_Call_method0_late hbase hline (dH (ho pins s σ H _ I h) fun v s1 ⟨x,H1,I1,r1,ty,q1⟩=> ?_)
 obtain⟨h1,h2⟩:=AC I1 r1 ty
 exact⟨T,id,pa,slot,hty,h1,h2,Calls.callWith_builtin rfl (PySem.evalArgs_none (hm pins s1 σ H1 x [] v [] Q I1 r1 .nil q1))⟩
theorem oa (pa:PlainAttrs T) (slot:Slot T name id) (hty:typeOf (.builtin id)=pure (.type "method_descriptor")) (hm:HM X id r) (ho:PE X o to) (ha:PA X (e::es) t)
  (hbase:attributeBase o name X.env (eval o X.env)=eval o X.env:=by rfl)
  (hfew:((backTo cpos (starEach (e::es) X.env)).all (fun x=> !x.1)&&(backToKw cpos (keywordEach [] X.env)).all (fun x=>x.1.isSome)
   &&decide ((e::es).length+([]:List Keyword).length+(if([]:List Keyword).isEmpty then 0 else 1)<30))=true:=by rfl)
  (hline:(apos.endLine==cpos.line)=true:=by rfl) (hs:starEach (e::es) X.env=(false,eval e X.env)::starEach es X.env:=by rfl) (hplain:(backTo cpos (starEach es X.env)).any (·.1)=false:=by rfl):
  PE X (.Call (.Attribute o name apos) (e::es) [] cpos) (HC X.K T r to t):=by
 intro pins s σ H Q I h
 refine wpAny_Call_method_late hbase hfew hline rfl (dH (ho pins s σ H _ I h) fun v s1 ⟨x,H1,I1,r1,ty,q1⟩=> ?_)
 obtain⟨h1,h2⟩:=AC I1 r1 ty
 refine⟨T,id,pa,slot,hty,h1,h2,?_⟩
 have hA:=ha cpos pins s1 σ H1 _ I1 q1
 rw[hs] at hA⊢
 refine Calls.callWith_builtin (by show(false||(backTo cpos (starEach es X.env)).any (·.1))=false;rw[hplain]<;>rfl) (Calls.evalArgs_plain ?_)
 exact dH hA fun us s2 ⟨vs,H2,I2,r2,q2⟩=>hm pins s2 σ H2 x vs v us Q I2 r1 r2 q2
end
end L2
namespace L2
open PySem PySem.Spec PyProof.Rows
def Iq (X:Cx) (id:String) (r:V→List V→Hp→VK→Prop):Prop:=
 ∀(pins:List (Addr×Obj)) (s:Shared) (σ:St) (H:Hp) (x:V) (xs:List V) (v:Value) (us:List Value) (Q:VK),Inv X pins σ H s→RelV x v→Vals xs us→r x xs H Q→
  wpAny (model X.prog X.w) X.A (call (.builtin id) (v::us)) (EP X pins σ Q) X.xe s
theorem Vals.one:∀{x:V} {us:List Value},Vals [x] us→∃u,us=[u]∧RelV x u
 |_,_,.cons r .nil=>⟨_,rfl,r⟩
theorem Vals.rep {xs:List V} {us:List Value} (h:Vals xs us):∀k:Nat,Vals (List.replicate k xs).flatten (List.replicate k us).flatten
 |0=> .nil
 |k+1=>by
  rw[List.replicate_succ,List.replicate_succ,List.flatten_cons,List.flatten_cons]
  exact Vals.append h (Vals.rep h k)
theorem lP (its:List Value):∀(k:Nat) (acc:List Value),
  List.foldl (fun x1 x2=>x1++x2) acc.toArray (List.replicate k its.toArray)=(acc++(List.replicate k its).flatten).toArray
 |0,acc=>by simp
 |k+1,acc=>by
  have e:acc.toArray++its.toArray=(acc++its).toArray:=by simp
  have e2:(acc++its)++(List.replicate k its).flatten=acc++(List.replicate (k+1) its).flatten:=by
   rw[List.replicate_succ,List.flatten_cons,List.append_assoc]
  rw[←e2,←lP its k (acc++its),←e,List.replicate_succ,List.foldl_cons]
section
variable {X:Cx} {pins:List (Addr×Obj)} {σ:St} {H:Hp} {s:Shared} {l b:Addr} {xs ys zs:List V}
theorem Inv.lset {its its':List Value} {n:Nat} {f:Array Value→Array Value} {t':Nat} (I:Inv X pins σ H s) (hH:H l=some (.lst xs))
  (e:s.heap.get? l=some {cls:= .type "list",data:= .seq its.toArray n}) (hf:f its.toArray=its'.toArray) (hv:Vals ys its') (hz:ys.length≤sizeLine):
  Inv X pins σ (bL H l (.lst ys)) {s with heap:=s.heap.update l (Obj.mapSeq f),toks:=t'}:=by
 have q:=PySem.IsL.update e f
 rw[hf] at q
 refine I.write (x:=l) (e:=l) (by rw[hH];exact trivial) (.inl rfl) (fun b' u hb hu=>(Heap.get?_update_other s.heap (Obj.mapSeq f) (Ne.symm hb)).trans hu) ⟨_,q⟩ ?_
 exact⟨hz,its',_,hv,q⟩
theorem Inv.lnew {its:List Value} {t':Nat} (I:Inv X pins σ H s) (hv:Vals ys its) (hz:ys.length≤sizeLine):
  Inv X pins σ (bL H s.heap.objs.size (.lst ys)) {s with heap:=s.heap.push {cls:= .type "list",data:= .seq its.toArray},toks:=t'}:=
 I.laid (fun _ _ q=>Heap.get?_push_of_some _ q) (Nat.le_refl _) ⟨hz,its,0,hv,Heap.get?_push_size _ rfl⟩
theorem Inv.fresh (I:Inv X pins σ H s):H s.heap.objs.size=none:=I.hok.fresh (Nat.le_refl _)
theorem Inv.lstM (I:Inv X pins σ H s) (hH:H l=some (.lst xs)):xs.length≤sizeLine∧∃(its:List Value) (n:Nat),Vals xs its∧xs.length=its.length∧s.heap.get? l=some {cls:= .type "list",data:= .seq its.toArray n}:=by
 obtain⟨z,its,n,r,e⟩:=I.hok l _ hH
 exact⟨z,its,n,r,r.length,e⟩
theorem Aw {n:Nat} (h:n≤sizeLine):Builtin.List.listTooLong n=false:=by
 unfold Builtin.List.listTooLong
 exact decide_eq_false (by omega)
end
section
variable {X:Cx}
def tq:V→List V→Hp→VK→Prop:=fun x vs H Q=>∃l xs y,x= .ref l∧vs=[y]∧H l=some (.lst xs)∧xs.length<sizeLine∧Q .non (bL H l (.lst (xs++[y])))
theorem eS:Iq X "list.append" tq:=by
 intro pins s σ H x vs v us Q I rx rv h
 obtain⟨l,xs,y,rfl,rfl,hH,hz,q⟩:=h
 cases rx
 obtain⟨u,rfl,ru⟩:=rv.one
 obtain⟨z,its,n,r,hl,e⟩:=I.lstM hH
 refine call_meets F.slot_list_append ⟨_,e,rfl⟩ F.entry_list_append (F.args_list_append_2 _ _) (PySem.list_append l its.toArray n u (by rw[List.size_toArray];omega)) ⟨e,?_⟩
 refine⟨.non,_,I.lset (its':=its++[u]) hH e (by simp) (r.append (.cons ru .nil)) ?_,rfl,q⟩
 rw[List.length_append,List.length_singleton]
 omega
theorem wP {α:Type} (xs:List α) (k:Nat):(List.replicate k xs).flatten.length=k*xs.length:=by
 induction k with
 |zero=>simp
 |succ k ih=>rw[List.replicate_succ,List.flatten_cons,List.length_append,ih,Nat.succ_mul,Nat.add_comm]
end
section
variable {prog:Program} {w:World} {A:Around} {E:Value→Shared→Prop} {s:Shared}
set_option maxRecDepth 100000 in
end
section
variable {X:Cx}
end
end L2
namespace Att
open PySem PySem.W PySem.Calls PyProof.Rows
theorem mQ {P:Params} {h:Heap}:∀(ns:List Int) (vs:List Value),WellAll P h vs (ns.map WData.int)→IntsAre vs ns:=by
 intro ns
 induction ns with
 |nil=>
  intro vs w
  rw[List.map_nil] at w
  cases w
  exact .nil
 |cons n ns ih=>
  intro vs w
  rw[List.map_cons] at w
  cases w with
  |cons a b=>
   cases a
   exact .cons _ _ (ih _ b)
theorem yB {l:OpenLaw} {n:Nat} (hn:l.most=some n) {P:Params} {h:Heap} {args:List WData} {vals:List Value}
  (hpre:l.row.toRowW.claim.pre args=true) (hwl:WellAll P h vals args):
  ∃a vs ns,vals=[Value.ref a]∧args=[WData.list (ns.map WData.int)]∧h.get? a=some {cls:= .type "list",data:= .seq vs.toArray}∧IntsAre vs ns∧ns.length≤n:=by
 have hsh:WShape.hasAll [] args [.list .int]=true:=(pre_splitW hpre).1
 have hc:l.pre.holds [] {args:=args}=true:=(pre_splitW hpre).2
 obtain⟨d,r,rfl,h1,h2⟩:=hasAllW_cons hsh
 obtain rfl:=hasAllW_nil h2
 obtain⟨xs,rfl,h3⟩:=hasW_list h1
 obtain⟨ns,rfl⟩:=items_int h3
 have hlen:ns.length≤n:=by
  unfold OpenLaw.pre at hc
  have h4:(WTm.not (.lt (.lit (.int (n:Int))) (.len (.arg 0)))).holds [] {args:=[.list (ns.map .int)]}=true:=by
   have h4:=(holds_andW hc).1
   rw[hn] at h4
   exact h4
  have h5:=condW_of h4 (w_not (w_lt w_lit (w_len_list (w_arg rfl))))
  rw[List.length_map] at h5
  refine Nat.le_of_not_lt fun q=> ?_
  have q':(n:Int)<((ns.length:Nat):Int):=by omega
  first
   |(rw[decide_eq_true q'] at h5;exact absurd h5 (by decide))
   |(simp at h5;omega)
 cases hwl with
 |cons w1 w2=>
  cases w2
  cases w1 with
  |list ho hall=>exact⟨_,_,ns,rfl,rfl,ho,mQ ns _ hall,hlen⟩
theorem za (l:OpenLaw) (args:List WData):l.row.toRowW.claim.post args (.bool true) args=true:=
 postW_of (r:=l.row.toRowW) (X:=(true==true))
  (show WShape.has [] (.bool true) .bool=true by first|rfl|decide|simp[WShape.has,WShape.arms,WShape.armsAll])
  (show(WTm.eq .res (.lit (.bool true))).value [] {args:=args,res:=some (.bool true),after:=args}=some (.bool (true==true)) from w_eq_bool (w_res rfl) w_lit) rfl
theorem attach_call {l:OpenLaw} {n:Nat} {q:Program} {loose:List Str} {XP:(Str→Option Value)→Heap→Prop} {YP:World→Heap→Prop} {d:DefRec}
  (hn:l.most=some n) (hdf:d.params.defaults=[])
  (call:∀(w:World) (s₀ s₁:Shared) (mg mb:Str→Option Value) (fa:Addr) (o:Obj) (pm cd doc:Value) (a:Addr) (vs:List Value) (ns:List Int),
   Ground q loose [] XP w s₀ mg mb s₁.heap→YP w s₁.heap→
   s₁.heap.get? fa=some o→o.data= .func (docDef d.name d.params d.body d.scope pm cd doc)→s₁.heap.CodeRec cd d.name→mg d.name=some (.ref fa)→
   s₁.heap.get? a=some {cls:= .type "list",data:= .seq vs.toArray}→IntsAre vs ns→ns.length≤n→s₁.gens= #[]→
   codeAny (model l.prog w) callerA (.call (.ref fa) ⟨[.ref a],[]⟩) (fun r s'=>r= .ok (.ret (.bool true))∧OldK s₁.heap s'.heap∧s'.os=s₁.os∧AllBare s'.gens) s₁):
  WalkO q loose XP YP l.row.toRowW d [] (fun f vs=>PySem.call f vs):=by
 intro w s₀ s₁ mg mb G Y fa o pm cd doc dV kV ho hd hcd hD hmg hg args vals as hpre hlay hrd hwl hlo
 obtain rfl:dV= .none:=Dflts.none hD hdf
 obtain rfl:kV= .none:=Dflts.noKw hD
 obtain⟨a,vs,ns,rfl,rfl,hobj,hints,hlen⟩:=yB hn hpre hwl
 refine enter_call (codeAny_mono (call w s₀ s₁ mg mb fa o pm cd doc a vs ns G Y ho (fd_plain hd) hcd hmg hobj hints hlen hg) fun r s' hq=> ?_)
 obtain⟨rfl,h2,h3,h4⟩:=hq
 exact⟨.inl ⟨.bool true,.bool true,[],rfl,fun _=>rfl,.bool true,za l _,fun _=>⟨List.Pairwise.nil,fun _ hm=>(nomatch hm)⟩⟩,h2,h3,h4⟩
section
variable {prog:Program} {w:World} {A:Around} {E:Value→Shared→Prop} {s:Shared} {K:Frag}
end
end Att
namespace L2
open PySem PySem.Spec PyProof.Rows
theorem h8:∀{vs:List Value} {ns:List Int},IntsAre vs ns→Vals (ns.map V.int) vs
 |_,_,.nil=> .nil
 |_,_,.cons n t h=> .cons ⟨t,rfl⟩ (h8 h)
def Gq (H:Hp):Prop:=∀b,H b=none∨∃o xs,H b=some (.frz o (.lst xs))
theorem Bf {P:Program} {w:World} {K:PySem.W.Frag} {mg mb:Str→Option Value} {CX:wz} {k:Nat} {fa a:Addr} {fd:FuncData} {x:Str} {sp:Sp} {s₁:Shared} {vs:List Value} {ns:List Int}
  (KX:K.In s₁.heap) (hns:s₁.heap.Ns mainGlobals mg) (hb:s₁.heap.Ns builtinsNs mb) (hbb:∀x:Str,x≠ "__name__"→mb x=bootBuiltins x) (hlim:s₁.heap.NoLimit) (hg:s₁.gens= #[])
  (ha:s₁.heap.get? a=some {cls:= .type "list",data:= .seq vs.toArray}) (hi:IntsAre vs ns) (hl:ns.length≤sizeLine) (hr:Room k callerA)
  (F:∀base:Heap,K.In base→base.Ns mainGlobals mg→FnOk P w K mg base CX k fa fd [x] sp) (hbind:∀(s:Shared) (u:Value),BindsTo s fd ⟨[u],[]⟩ [(x,u)])
  (hsp:∀H:Hp,Gq H→SqL K H a (ns.map V.int)→sp [.ref a] H (fun v _=>v= .bl true) fun _ _ _=>False)
  (hCX:∀H e s',CX [] H s₁ (fun _ _ _=>False) e s'→False):
  codeAny (model P w) callerA (.call (.ref fa) ⟨[.ref a],[]⟩) (fun r s'=>r= .ok (.ret (.bool true))∧OldK s₁.heap s'.heap∧s'.os=s₁.os∧AllBare s'.gens) s₁:=by
 have rv:=h8 hi
 have lenV:=hi.length
 have core:∀H:Hp,Gq H→SqL K H a (ns.map V.int)→HOk P w H s₁.heap→(∀b,H b≠none→b=a)→(H a≠none→K.lookup a=none)→
   codeAny (model P w) callerA (.call (.ref fa) ⟨[.ref a],[]⟩) (fun r s'=>r= .ok (.ret (.bool true))∧OldK s₁.heap s'.heap∧s'.os=s₁.os∧AllBare s'.gens) s₁:=by
  intro H hO hS hok hA hK
  have base_of:∀{b:Addr} {o:Obj},s₁.heap.get? b=some o→H b=none→(rB s₁.heap H).get? b=some o:=fun e n=>zK e n
  have noA:∀{b:Addr} {o:Obj} {es:Array DictEntry} {ep:Nat},s₁.heap.get? b=some o→o.data= .dict es ep→H b=none:=fun{b o es ep} e d=>by
   cases q:H b with
   |none=>rfl
   |some u=>
    have e':b=a:=hA b (by rw[q];simp)
    subst e'
    rw[ha] at e;cases e
    have d':Data.seq vs.toArray _=Data.dict es ep:=d
    cases d'
  have nsK:∀{b:Addr} {m:Str→Option Value},s₁.heap.Ns b m→(rB s₁.heap H).Ns b m:=fun{b m} ⟨o,es,ep,e,d,r⟩=>⟨o,es,ep,base_of e (noA e d),d,r⟩
  have hKb:K.In (rB s₁.heap H):=fun b o e=>base_of (KX b o e) (by
   cases q:H b with
   |none=>rfl
   |some u=>
    have e':b=a:=hA b (by rw[q];simp)
    subst e'
    rw[hK (by rw[q];simp)] at e;cases e)
  have hM:Mod K mg (rB s₁.heap H):=⟨hKb,nsK hns,⟨mb,nsK hb,hbb⟩,let⟨mc,h1,h2⟩:=hlim;⟨mc,nsK h1,h2⟩⟩
  have e0:Env0 P w K mg (rB s₁.heap H) callerA [] s₁ H:=⟨rfl,hM,fun b o e=>BX e,Nat.le_of_eq (yS _ _),trivial,fun b hb=>absurd (show b∈([]:List Addr) from hb) (by simp),hok,.of_eq hg⟩
  refine codeAny_mono ((F _ hKb (nsK hns)).run callerA [] s₁ H ⟨[.ref a],[]⟩ [.ref a] [.ref a] _ _ hr e0 (hbind s₁ (.ref a)) (.cons rfl .nil) (hsp H hO hS)) fun r s' h=> ?_
  cases r with
  |error e=>exact(hCX H e s' h).elim
  |ok fl=>
   cases fl with
   |next=>exact False.elim h
   |brk=>exact False.elim h
   |cont=>exact False.elim h
   |ret u=>
    obtain⟨v,H',os,bare,un,hok',r',q⟩:=h
    have q':v= .bl true:=q
    subst q'
    obtain rfl:u=Value.bool true:=r'
    refine⟨rfl,OldK.of_keep fun b o e=> ?_,os,bare⟩
    cases q:H b with
    |none=>exact un.keep b o e q (by intro z;exact absurd (show b∈([]:List Addr) from z) (by simp)) (by simp)
    |some u=>
     rcases hO b with z|⟨ob,xs,z⟩
     ·rw[q] at z;cases z
     ·have z2:=un.frzs b ob _ z
      obtain⟨e1,_⟩:=hok b _ z
      obtain⟨e2,_⟩:=hok' b _ z2
      rw[e] at e1;cases e1
      exact e2
 cases hk:K.lookup a with
 |some o=>
  have e:=KX a o hk
  rw[ha] at e
  cases e
  refine core (fun _=>none) (fun _=> .inl rfl) (.inr ⟨_,vs.toArray,_,hk,rfl,rfl,rfl,by rw[List.size_toArray,lenV];exact hl,by simpa using rv⟩) (fun b u z=>by have z':(none:Option HO)=some u:=z;cases z') (fun b z=>absurd rfl z) fun z=>absurd rfl z
 |none=>
  refine core (fun b=>if b=a then some (.frz {cls:= .type "list",data:= .seq vs.toArray} (.lst (ns.map V.int))) else none) (fun b=> ?_) (.inl (.inr ⟨{cls:= .type "list",data:= .seq vs.toArray},if_pos rfl⟩)) (fun b u z=> ?_) (fun b z=> ?_) fun _=>hk
  ·by_cases hb:b=a
   ·exact .inr ⟨_,_,if_pos hb⟩
   ·exact .inl (if_neg hb)
  ·by_cases hb:b=a
   ·have z':=(if_pos hb).symm.trans z
    cases z'
    subst hb
    exact⟨ha,by rw[List.length_map];exact hl,vs,_,rv,ha⟩
   ·have z':=(if_neg hb).symm.trans z
    cases z'
  ·by_cases hb:b=a
   ·exact hb
   ·exact absurd (if_neg hb) z
end L2
namespace L2
open PySem PySem.Spec PyProof.Rows
end L2
namespace L2
open PySem PySem.Spec PyProof.Rows
noncomputable def am (s:Stmt) (j:Nat):Stmt:=match s with
 | .ClassDef _ _ _ body _ _ _ _ _ _ _=>body.getD j (.Pass ⟨0,0,0,0⟩)
 |_=> .Pass ⟨0,0,0,0⟩
noncomputable def bu (s:Stmt):Arguments:=match s with
 | .FunctionDef _ a _ _ _ _ _ _ _ _=>a
 |_=>{posonlyargs:=[],args:=[],vararg:=none,kwonlyargs:=[],kw_defaults:=[],kwarg:=none,defaults:=[]}
noncomputable def a9 (s:Stmt):List Stmt:=match s with
 | .FunctionDef _ _ b _ _ _ _ _ _ _=>b
 |_=>[]
noncomputable def ag (s:Stmt):Scope:=match s with
 | .FunctionDef _ _ _ _ _ _ sc _ _ _=>sc
 |_=>{kind:= .function,names:=[],isGenerator:=false,isCoroutine:=false}
abbrev dR:wz:=fun _ _ _ _ _ _=>False
abbrev E0:XK:=fun _ _ _=>False
theorem dS {X:Cx}:gM dR X E0:=fun _ _ _ _ _ _ _ h=>h.elim
structure Fun (K:PySem.W.Frag) (x qual:Str) (st:Stmt) (f:Addr) (fd:FuncData):Prop where
 ex:∃(oc:Value) (od:Option Addr) (kV doc pm:Value) (an:Option Addr) (cdv ct:Value) (osl:Array (Option Value)),
  fd=PySem.W.fnOf x qual (bu st) (a9 st) (ag st) .none kV doc pm an cdv ct∧K.lookup f=some ⟨oc,od,.func fd,osl⟩∧PySem.W.codeIn K cdv qual=true
 kp:PySem.W.keepIn K (.ref f)=true
section
variable {P:Program} {w:World} {K:PySem.W.Frag} {mg:Str→Option Value} {base:Heap}
theorem Fun.ok {x qual:Str} {st:Stmt} {f:Addr} {fd:FuncData} {N ps:List Str} {k:Nat} {sp:Sp} (F:Fun K x qual st f fd) (S:FnScope N ps (ag st)) (len:∀vs H Q E,sp vs H Q E→vs.length=ps.length)
  (hbody:∀(cdv:Value) (A:Around) (outer:List Env) (s:Shared) (H:Hp) (vs:List V) (Q:VK) (E:XK),Room k (A.deeper (envOfC qual (ag st) s.heap.objs.size f cdv))→sp vs H Q E→
   ∃t,PSs (se dR P w K mg base N qual (ag st) f cdv A outer s H E).nox (a9 st) t∧t {nx:=fun _ H'=>Q .non H',rt:=Q} (start N vs) H):FnOk P w K mg base dR (k+1) f fd ps sp:=by
 obtain⟨oc,od,kV,doc,pm,an,cdv,ct,osl,rfl,lk,hcd⟩:=F.ex
 refine Gs lk hcd S len fun A outer s H vs Q E hr hsp=> ?_
 obtain⟨t,h,q⟩:=hbody cdv A outer s H vs Q E hr hsp
 exact⟨t,h.nox,q⟩
theorem Fun.binds {x qual:Str} {st:Stmt} {f:Addr} {fd:FuncData} {ps:List Str} (F:Fun K x qual st f fd)
  (h:∀(kV doc pm:Value) (an:Option Addr) (cdv ct:Value) (us:List Value),us.length=ps.length→bindArgs (PySem.W.fnOf x qual (bu st) (a9 st) (ag st) .none kV doc pm an cdv ct) ⟨us,[]⟩=pure (ps.zip us)):Binds K fd ps []:=by
 obtain⟨oc,od,kV,doc,pm,an,cdv,ct,osl,rfl,lk,hcd⟩:=F.ex
 exact .all (h kV doc pm an cdv ct)
theorem cC {x qual:Str} {st:Stmt} {f:Addr} {oc:Value} {od an:Option Addr} {osl:Array (Option Value)} {kV doc pm cdv ct:Value} (l:K.lookup f=some ⟨oc,od,.func (PySem.W.fnOf x qual (bu st) (a9 st) (ag st) .none kV doc pm an cdv ct),osl⟩)
  (c:PySem.W.codeIn K cdv qual=true) (k:PySem.W.keepIn K (.ref f)=true):Fun K x qual st f (PySem.W.fnOf x qual (bu st) (a9 st) (ag st) .none kV doc pm an cdv ct):=⟨⟨oc,od,kV,doc,pm,an,cdv,ct,osl,rfl,l,c⟩,k⟩
end
section
variable {X:Cx}
theorem pv (i:Nat) {x:Str} {pos:Pos} (hN:X.N[i]? =some x:=by rfl) (hv:HK X.env.scope x:=by first|exact Or.inl rfl|exact Or.inr (Or.inl rfl)|exact Or.inr (Or.inr rfl)) (hd:(x==("__debug__":Str))=false:=by decide)
  (hcd:(x==("__classdict__":Str))=false:=by decide):PE X (.Name x pos) (Bv i):=ER hN hv hd hcd
end
def Same (H H':Hp):Prop:=∀b o,H b=some o→H' b=some o
theorem Same.refl (H:Hp):Same H H:=fun _ _ h=>h
theorem Same.trans {H H1 H2:Hp} (a:Same H H1) (b:Same H1 H2):Same H H2:=fun c o h=>b c o (a c o h)
theorem Same.free {H H':Hp} (e:Same H H') {l:Addr} (h:H' l=Option.none):H l=Option.none:=by
 cases q:H l with
 |none=>rfl
 |some o=>
  rw[e l o q] at h
  cases h
end L2
set_option maxHeartbeats 4000000
namespace L2
open PySem PySem.Spec PyProof.Rows
section
variable {X:Cx} {pins:List (Addr×Obj)} {σ:St} {H:Hp} {s:Shared} {h':Heap}
theorem Inv.turnedLaid {p:Addr} {o:HO} {t':Nat} {ch:List Addr} (I:Inv X pins σ H s) (hf:∀b∈ch,lS X pins H b)
  (k:∀b u,b∉ch→s.heap.get? b=some u→h'.get? b=some u) (hp:s.heap.objs.size≤p)
  (new:ObjOk X.prog X.w (bL H p o) h' p o):Inv X pins σ (bL H p o) {s with heap:=h',toks:=t'}:=by
 have hn:H p=none:=I.hok.fresh hp
 have nch:∀b u,H b=some u→b∉ch:=fun b u e z=>by rw[(hf b z).1] at e;cases e
 have nep:∀b u,s.heap.get? b=some u→b≠p:=fun b u e=>Nat.ne_of_lt (Nat.lt_of_lt_of_le (Heap.lt_size e) hp)
 refine I.step (g':=s.gens) (d':=s.drawn) (ch:=ch) (fun b hb=> ?_) (fun b u _ _ hc e _=>k b u hc e) (fun b u _ _ hc e _=>⟨u.slots,k b u hc e⟩)
  (fun b u _ e n=>by rw[aX (nep b u e)];exact n) (fun b u hc e=>⟨u,k b u hc e⟩) (fun b xs e=>by rw[aX (cj e hn)];exact e)
  (fun b u xs e=>by rw[aX (cj e hn)];exact e) (fun b ps e=>⟨#[],by rw[aX (cj e hn),e];simp⟩) (fun m hm=> ?_) (fun b u e=> ?_) I.bare
 ·obtain⟨_,h2,_,h4,h5,h6⟩:=hf b hb
  exact⟨h4,h2,h5,h6⟩
 ·obtain⟨ob,es,ep,ho,r⟩:=hm
  exact⟨ob,es,ep,k _ ob (fun z=>(hf _ z).2.1 rfl) ho,r⟩
 ·by_cases hb:b=p
  ·subst hb
   rw[aO] at e
   cases e
   exact new
  ·rw[aX hb] at e
   refine(I.hok b u e).stay (fun c v hc q=>k c v ?_ q) (fun c q=>by rw[aX (cj q hn)];exact q) fun c xs q=>by rw[aX (cj q hn)];exact q
   rcases hc with z|z
   ·rw[z];exact nch b u e
   ·exact nch c _ z
end
mutual
inductive DV (K:PySem.W.Frag) (H:Hp):V→PyData→Prop
 |non:DV K H .non .none
 |bl (b:Bool):DV K H (.bl b) (.bool b)
 |int (i:Int):DV K H (.int i) (.int i)
 |str (x:Str):DV K H (.str x) (.str x)
 |tup {a:Addr} {xs:List V} {ds:List PyData}:SqT K H a xs→DVs K H xs ds→DV K H (.ref a) (.tuple ds)
 |lst {a:Addr} {xs:List V} {ds:List PyData}:SqL K H a xs→DVs K H xs ds→DV K H (.ref a) (.list ds)
inductive DVs (K:PySem.W.Frag) (H:Hp):List V→List PyData→Prop
 |nil:DVs K H [] []
 |cons {v:V} {vs:List V} {d:PyData} {ds:List PyData}:DV K H v d→DVs K H vs ds→DVs K H (v::vs) (d::ds)
end
section
variable {X:Cx} {pins:List (Addr×Obj)} {σ:St} {H:Hp} {s:Shared}
mutual
theorem DV.reads (I:Inv X pins σ H s):∀{v:V} {d:PyData} {u:Value},DV X.K H v d→RelV v u→∃as,Reads s.heap u d as
 |_,_,_,.non,r=>by cases r;exact⟨_,.none⟩
 |_,_,_,.bl b,r=>by cases r;exact⟨_,.bool b⟩
 |_,_,_,.int i,r=>by obtain⟨t,rfl⟩:=r;exact⟨_,.int i t⟩
 |_,_,_,.str x,r=>by obtain⟨t,rfl⟩:=r;exact⟨_,.str x t⟩
 |_,_,_,.tup h hs,r=>by
  cases r
  obtain⟨its,rv,⟨o,e,c,n,d⟩,_⟩:=I.tuple h
  obtain⟨as,q⟩:=DVs.reads I hs rv
  exact⟨_,.tuple e c d (by simpa using q)⟩
 |_,_,_,.lst h hs,r=>by
  cases r
  obtain⟨its,rv,⟨o,n,e,c,_,d⟩,_⟩:=I.list h
  obtain⟨as,q⟩:=DVs.reads I hs rv
  exact⟨_,.list e c d (by simpa using q)⟩
theorem DVs.reads (I:Inv X pins σ H s):∀{vs:List V} {ds:List PyData} {us:List Value},DVs X.K H vs ds→Vals vs us→∃as,ReadsAll s.heap us ds as
 |_,_,_,.nil,r=>by cases r;exact⟨_,.nil⟩
 |_,_,_,.cons h hs,r=>by
  cases r with
  |cons r1 r2=>
   obtain⟨as,q⟩:=DV.reads I h r1
   obtain⟨bs,q2⟩:=DVs.reads I hs r2
   exact⟨_,.cons q q2⟩
end
end
def Cr (K:PySem.W.Frag) (neg:Bool):R2:=fun x y H Q=>∃dx dy,DV K H x dx∧DV K H y dy∧dx.canLay0=true∧dy.canLay0=true∧dx.depth≤64∧Q (.bl (if neg then !PyData.eqv dx dy else PyData.eqv dx dy)) H
section
variable {X:Cx}
theorem cN (hu:X.A.units+64<cLine):OpR X (compareOp .Eq) (Cr X.K false):=by
 intro pins s σ H x y v u Q I rx ry h
 obtain⟨dx,dy,h1,h2,l1,l2,hd,q⟩:=h
 obtain⟨as,r1⟩:=h1.reads I rx
 obtain⟨bs,r2⟩:=h2.reads I ry
 exact PySem.SeqAt.compareEq_reads r1 r2 l1 l2 (by omega) ⟨.bl _,H,I,rfl,q⟩
theorem gW (hu:X.A.units+64<cLine):OpR X (compareOp .NotEq) (Cr X.K true):=by
 intro pins s σ H x y v u Q I rx ry h
 obtain⟨dx,dy,h1,h2,l1,l2,hd,q⟩:=h
 obtain⟨as,r1⟩:=h1.reads I rx
 obtain⟨bs,r2⟩:=h2.reads I ry
 exact PySem.SeqAt.compareNe_reads r1 r2 l1 l2 (by omega) ⟨.bl _,H,I,rfl,q⟩
theorem oH:OpR X (binaryOp .FloorDiv) (rI (fun _ j=>0<j∧j.natAbs.log2<9000) fun i j=> .int (i/j)):=HQ fun i j _ _ _ _ _ hc q=>by
 have h1:(0:Int)<j:=hc.1
 exact floordiv_int (by omega) (by rw[Int.fdiv_eq_ediv_of_nonneg i (by omega)];exact q) (.inl (PyProof.noPylong_of_log2 hc.2))
end
end L2
namespace L2
open PySem PySem.Spec PyProof.Rows
noncomputable def gy (env:Env):List (Str×NameKind)→List (Str×Addr)→List (Str×Addr)
 |[],acc=>acc
 |(n,k)::r,acc=>if(k==NameKind.free)=true then(match env.cells.lookup n with|some c=>gy env r ((n,c)::acc)|none=>gy env r acc) else gy env r acc
theorem kB {env:Env} {f:Str×NameKind→List (Str×Addr)→Sem (ForInStep (List (Str×Addr)))}
  (h1:∀n k acc,(k==NameKind.free)=false→f (n,k) acc=pure (.yield acc)) (h2:∀n c acc,env.cells.lookup n=some c→f (n,.free) acc=pure (.yield ((n,c)::acc))):
  ∀(names:List (Str×NameKind)) (acc:List (Str×Addr)),(∀y∈names,y.2= .free→∃c,env.cells.lookup y.1=some c)→forIn names acc f=pure (gy env names acc)
 |[],acc,_=>rfl
 |(n,k)::r,acc,h=>by
  have hr:∀y∈r,y.2= .free→∃c,env.cells.lookup y.1=some c:=fun y hy=>h y (List.mem_cons_of_mem _ hy)
  rw[List.forIn_cons]
  cases hk:(k==NameKind.free) with
  |false=>
   rw[h1 n k acc hk,pure_bind]
   show forIn r acc f=_
   rw[kB h1 h2 r acc hr]
   simp only[gy,hk,Bool.false_eq_true,if_false]
  |true=>
   have e:k= .free:=by simpa using hk
   subst e
   obtain⟨c,hc⟩:=h _ List.mem_cons_self rfl
   rw[h2 n c acc hc,pure_bind]
   show forIn r ((n,c)::acc) f=_
   rw[kB h1 h2 r _ hr]
   have hc':env.cells.lookup n=some c:=hc
   simp only[gy,hk,if_true,hc']
theorem nW {env:Env} {scope:Scope} (h:∀y∈scope.names,y.2= .free→∃c,env.cells.lookup y.1=some c):closureFor scope env=pure (gy env scope.names []):=by
 simp only[closureFor]
 rw[kB (env:=env) (fun n k acc hk=>by simp only[hk,Bool.false_eq_true,if_false]) (fun n c acc hc=>by simp only[beq_self_eq_true,if_true,cellOf,hc,pure_bind]) scope.names [] h,pure_bind]
theorem jn {env:Env}:∀(names:List (Str×NameKind)) (acc:List (Str×Addr)),(∀x c,acc.lookup x=some c→env.cells.lookup x=some c)→∀x c,(gy env names acc).lookup x=some c→env.cells.lookup x=some c
 |[],_,h,x,c,e=>h x c e
 |(n,k)::r,acc,h,x,c,e=>by
  unfold gy at e
  split at e
  ·split at e
   ·rename_i c' hc'
    refine jn r _ (fun y d q=> ?_) x c e
    rw[List.lookup_cons] at q
    split at q
    ·rename_i hy
     cases q
     rw[eq_of_beq hy]
     exact hc'
    ·exact h y d q
   ·exact jn r acc h x c e
  ·exact jn r acc h x c e
theorem jv {env:Env}:∀(names:List (Str×NameKind)) (acc:List (Str×Addr)) (x:Str),(acc.lookup x).isSome=true→((gy env names acc).lookup x).isSome=true
 |[],_,_,h=>h
 |(n,k)::r,acc,x,h=>by
  unfold gy
  split
  ·split
   ·refine jv r _ x ?_
    rw[List.lookup_cons]
    split
    ·rfl
    ·exact h
   ·exact jv r acc x h
  ·exact jv r acc x h
theorem kL {env:Env}:∀(names:List (Str×NameKind)) (acc:List (Str×Addr)) (x:Str) (c:Addr),(x,NameKind.free)∈names→env.cells.lookup x=some c→((gy env names acc).lookup x).isSome=true
 |[],_,_,_,h,_=>by cases h
 |(n,k)::r,acc,x,c,h,hc=>by
  rcases List.mem_cons.mp h with z|h
  ·cases z
   simp only[gy,beq_self_eq_true,if_true,hc]
   exact jv r _ _ (by simp[List.lookup_cons])
  ·unfold gy
   split
   ·split
    ·exact kL r _ x c h hc
    ·exact kL r acc x c h hc
   ·exact kL r acc x c h hc
theorem uf {env:Env} {names:List (Str×NameKind)} {x:Str} {c:Addr} (h:(x,NameKind.free)∈names) (hc:env.cells.lookup x=some c):(gy env names []).lookup x=some c:=by
 have q:=kL names [] x c h hc
 cases e:(gy env names []).lookup x with
 |none=>rw[e] at q;cases q
 |some d=>
  have z:=jn names [] (fun y d q=>by cases q) x d e
  rw[hc] at z
  exact z.symm
theorem tM {env:Env} {scope:Scope} {x:Str} {k:NameKind} (h:(relabel scope env).names.lookup x=some k):∃k0,(x,k0)∈scope.names∧(k=k0∨(k0= .free∧k= .cell)):=by
 obtain⟨⟨n,k0⟩,hm,e⟩:=List.mem_map.mp (PySem.mem_of_lookup h)
 simp only at e
 split at e
 ·rename_i hc
  cases e
  have hk:(k0==NameKind.free)=true:=by
   rw[Bool.and_eq_true,Bool.and_eq_true] at hc
   exact hc.1.1
  exact⟨k0,hm,.inr ⟨by simpa using hk,rfl⟩⟩
 ·cases e
  exact⟨_,hm,.inl rfl⟩
theorem ix {env:Env}:∀{names:List (Str×NameKind)} {x:Str},names.lookup x=some .free→
  (names.map fun(n,k)=>if(k==NameKind.free&&env.scope.kind== .function&&env.kindOf n==some .cell) then(n,NameKind.cell) else(n,k)).lookup x=some .cell∨
  (names.map fun(n,k)=>if(k==NameKind.free&&env.scope.kind== .function&&env.kindOf n==some .cell) then(n,NameKind.cell) else(n,k)).lookup x=some .free
 |[],_,h=>by cases h
 |(n,k)::r,x,h=>by
  rw[List.lookup_cons] at h
  rw[List.map_cons]
  dsimp only
  by_cases hc:(k==NameKind.free&&env.scope.kind== .function&&env.kindOf n==some .cell)=true
  ·rw[if_pos hc,List.lookup_cons]
   cases hx:x==n with
   |true=>exact .inl rfl
   |false=>rw[hx] at h;exact ix h
  ·rw[if_neg hc,List.lookup_cons]
   cases hx:x==n with
   |true=>rw[hx] at h;exact .inr h
   |false=>rw[hx] at h;exact ix h
noncomputable def fx (own:List Str) (fv:List (Str×Nat)):List Str:=own++fv.map (·.1)
noncomputable def gr (own:List Str) (fv:List (Str×Nat)) (σ:St):St:=own.map (fun _=>none)++fv.map fun p=>(σ[p.2]?).join
def FvOk (X:Cx) (scope:Scope):List (Str×Nat)→Prop
 |[]=>True
 |p::r=>(X.N[p.2]? =some p.1∧scope.names.lookup p.1=some .free∧(X.env.scope.names.lookup p.1=some .cell∨X.env.scope.names.lookup p.1=some .free))∧FvOk X scope r
theorem FvOk.mem {X:Cx} {scope:Scope}:∀{fv:List (Str×Nat)},FvOk X scope fv→∀p∈fv,X.N[p.2]? =some p.1∧scope.names.lookup p.1=some .free∧(X.env.scope.names.lookup p.1=some .cell∨X.env.scope.names.lookup p.1=some .free)
 |[],_,p,hp=>by cases hp
 |q::r,h,p,hp=>by
  rcases List.mem_cons.mp hp with z|hp
  ·rw[z];exact h.1
  ·exact h.2.mem p hp
noncomputable def sQ (X:Cx) (scope:Scope) (C:Addr):List (Str×Addr):=cellsFrom (C+1) scope.names (gy X.env scope.names [])
theorem oy:∀(names:List (Str×NameKind)) (n:Nat) (acc:List (Str×Addr)) (x:Str) (c:Addr),(cellsFrom n names acc).lookup x=some c→(n≤c∧(x,NameKind.cell)∈names)∨acc.lookup x=some c
 |[],_,_,_,_,h=> .inr h
 |(y,k)::r,n,acc,x,c,h=>by
  unfold cellsFrom at h
  by_cases hk:(k==NameKind.cell)=true
  ·rw[if_pos hk] at h
   have e:k= .cell:=by simpa using hk
   rcases oy r _ _ x c h with⟨h1,h2⟩|h1
   ·exact .inl ⟨Nat.le_of_succ_le h1,List.mem_cons_of_mem _ h2⟩
   ·rw[List.lookup_cons] at h1
    split at h1
    ·rename_i hy
     cases h1
     exact .inl ⟨Nat.le_refl _,by rw[eq_of_beq hy,e];exact List.mem_cons_self⟩
    ·exact .inr h1
  ·rw[if_neg hk] at h
   rcases oy r _ _ x c h with⟨h1,h2⟩|h1
   ·exact .inl ⟨h1,List.mem_cons_of_mem _ h2⟩
   ·exact .inr h1
theorem Az:∀(names:List (Str×NameKind)) (n:Nat) (acc:List (Str×Addr)) (x:Str),(x,NameKind.cell)∉names→(cellsFrom n names acc).lookup x=acc.lookup x
 |[],_,_,_,_=>rfl
 |(y,k)::r,n,acc,x,h=>by
  have hr:(x,NameKind.cell)∉r:=fun z=>h (List.mem_cons_of_mem _ z)
  unfold cellsFrom
  by_cases hk:(k==NameKind.cell)=true
  ·have e:k= .cell:=by simpa using hk
   rw[if_pos hk,Az r _ _ x hr,List.lookup_cons]
   have hy:(x==y)=false:=by
    refine beq_eq_false_iff_ne.mpr fun z=>h ?_
    rw[z,e];exact List.mem_cons_self
   rw[hy]
  ·rw[if_neg hk];exact Az r _ _ x hr
theorem nZ:∀(names:List (Str×NameKind)) (h:Heap) (acc:List (Str×Addr)) (x:Str) (c:Addr),(cellsFrom h.objs.size names acc).lookup x=some c→(h.objs.size≤c∧(pushCells h names).IsCell c none)∨acc.lookup x=some c
 |[],_,_,_,_,e=> .inr e
 |(y,k)::r,h,acc,x,c,e=>by
  unfold cellsFrom at e
  unfold pushCells
  by_cases hk:(k==NameKind.cell)=true
  ·rw[if_pos hk] at e⊢
   rw[←Heap.size_push h {cls:= .type "cell",data:= .cell none}] at e
   rcases nZ r _ _ x c e with⟨h1,h2⟩|h1
   ·rw[Heap.size_push] at h1;exact .inl ⟨Nat.le_of_succ_le h1,h2⟩
   ·rw[List.lookup_cons] at h1
    split at h1
    ·cases h1
     exact .inl ⟨Nat.le_refl _,_,pushCells_keeps _ _ _ _ (Heap.get?_push_size _ rfl),rfl⟩
    ·exact .inr h1
  ·rw[if_neg hk] at e⊢;exact nZ r _ _ x c e
theorem vX:∀(names:List (Str×NameKind)) (n:Nat) (acc:List (Str×Addr)),(∀x c,acc.lookup x=some c→c<n)→(∀x y c,acc.lookup x=some c→acc.lookup y=some c→x=y)→∀x y c,(cellsFrom n names acc).lookup x=some c→(cellsFrom n names acc).lookup y=some c→x=y
 |[],_,_,_,h2,x,y,c,e1,e2=>h2 x y c e1 e2
 |(z,k)::r,n,acc,h1,h2,x,y,c,e1,e2=>by
  unfold cellsFrom at e1 e2
  by_cases hk:(k==NameKind.cell)=true
  ·rw[if_pos hk] at e1 e2
   refine vX r (n+1) ((z,n)::acc) (fun a d q=> ?_) (fun a b d q1 q2=> ?_) x y c e1 e2
   ·rw[List.lookup_cons] at q
    split at q
    ·cases q;exact Nat.lt_succ_self _
    ·exact Nat.lt_succ_of_lt (h1 a d q)
   ·rw[List.lookup_cons] at q1 q2
    split at q1
    ·rename_i ha
     split at q2
     ·rename_i hb;rw[eq_of_beq ha,eq_of_beq hb]
     ·cases q1;exact absurd (h1 b _ q2) (Nat.lt_irrefl _)
    ·split at q2
     ·cases q2;exact absurd (h1 a _ q1) (Nat.lt_irrefl _)
     ·exact h2 a b d q1 q2
  ·rw[if_neg hk] at e1 e2;exact vX r n acc h1 h2 x y c e1 e2
theorem vM:∀{names:List (Str×NameKind)} {x:Str} {k k':NameKind},(names.map (·.1)).Nodup→names.lookup x=some k→(x,k')∈names→k=k'
 |[],_,_,_,_,h,_=>by cases h
 |(y,j)::r,x,k,k',hn,h,hm=>by
  rw[List.map_cons,List.nodup_cons] at hn
  rw[List.lookup_cons] at h
  rcases List.mem_cons.mp hm with e|hm'
  ·cases e
   rw[beq_self_eq_true] at h
   exact(Option.some.inj h).symm
  ·cases hx:x==y with
   |true=>
    rw[eq_of_beq hx] at hm'
    exact absurd (List.mem_map.mpr ⟨_,hm',rfl⟩) hn.1
   |false=>rw[hx] at h;exact vM hn.2 h hm'
noncomputable def d4 (X:Cx) (s:Shared) (H:Hp) (scope:Scope) (C:Addr) (N:List Str) (fp:List Addr):Cx:=
 {X with N:=N,s₀:=s,H₀:=H,env:=compEnvC scope (sQ X scope C) C X.env,outer:=X.stack,stack:=X.stack,ex:=fp,fn:=fun x=>((gy X.env scope.names []).lookup x).isNone,pn:=[],xe:=fun _ _=>False}
section
variable {X:Cx} {pins:List (Addr×Obj)} {σ:St} {H:Hp} {s:Shared}
theorem qA {scope:Scope} (I:Inv X pins σ H s) {x:Str} {c:Addr} (e:(gy X.env scope.names []).lookup x=some c):X.env.cells.lookup x=some c∧c<s.heap.objs.size:=by
 have h:=jn _ _ (fun _ _ q=>by cases q) x c e
 obtain⟨v,o,z,_⟩:=I.cell x c h
 exact⟨h,Heap.lt_size z⟩
theorem xX {scope:Scope} {C:Addr} {N:List Str} {fp:List Addr} (I:Inv X pins σ H s) (hkind:scope.kind= .function) (hnd:(scope.names.map (·.1)).Nodup)
  (hfr:∀y∈scope.names,y.2= .free→∃c,X.env.cells.lookup y.1=some c) (hC:s.heap.objs.size≤C) (hf:∀b∈fp,lS X pins H b) (hfl:∀b∈fp,b<s.heap.objs.size):(d4 X s H scope C N fp).Ok where
 mod:=I.ok.mod
 kind:=hkind
 glob:=I.ok.glob
 blt:=I.ok.blt
 above:=hC
 inj:=vX _ _ _ (fun x c e=>Nat.lt_succ_of_lt (Nat.lt_of_lt_of_le (qA I e).2 hC)) fun x y c h1 h2=>I.ok.inj x y c (qA I h1).1 (qA I h2).1
 has:=fun x hx=>by
  have hx':∃k,(relabel scope X.env).names.lookup x=some k∧(k= .cell∨k= .free):=by
   rcases hx with z|z
   ·exact⟨_,z,.inl rfl⟩
   ·exact⟨_,z,.inr rfl⟩
  obtain⟨k,hk,hk2⟩:=hx'
  obtain⟨k0,hm,hk0⟩:=tM hk
  have e:k0= .free∨k0= .cell:=by
   rcases hk0 with z|⟨z,_⟩
   ·subst z
    rcases hk2 with z|z
    ·exact .inr z
    ·exact .inl z
   ·exact .inl z
  have q:((sQ X scope C).lookup x).isSome=true:=by
   rcases e with e|e
   ·subst e
    obtain⟨c,hc⟩:=hfr _ hm rfl
    exact PySem.W.cellsFrom_some _ _ _ (.inr (by rw[uf hm hc];rfl))
   ·subst e
    refine PySem.W.cellsFrom_some _ _ _ (.inl ?_)
    cases z:scope.names.lookup x with
    |none=>exact absurd hm (fun hm=>by
      have:∀{l:List (Str×NameKind)},l.lookup x=none→(x,NameKind.cell)∉l:=fun{l}=>by
       induction l with
       |nil=>exact fun _=>by simp
       |cons p r ih=>
        intro h q
        rw[List.lookup_cons] at h
        rcases List.mem_cons.mp q with q|q
        ·rw[←q,beq_self_eq_true] at h;cases h
        ·split at h
         ·cases h
         ·exact ih h q
      exact this z hm)
    |some k'=>rw[vM hnd z hm]
  exact Option.isSome_iff_exists.mp q
 cab:=fun x c h1 h2=>by
  have h1':((gy X.env scope.names []).lookup x).isNone=true:=h1
  have h2':(sQ X scope C).lookup x=some c:=h2
  rcases oy _ _ _ x c h2' with⟨z,_⟩|z
  ·exact Nat.le_trans hC (Nat.le_of_succ_le z)
  ·rw[z] at h1';cases h1'
 hd:=I.ok.hd
 frames:=I.ok.frames
 stk:= .inl rfl
 exf:=fun b hb=>⟨Nat.ne_of_lt (Nat.lt_of_lt_of_le (hfl b hb) hC),fun x c e=>by
  rcases oy _ _ _ x c e with⟨z,_⟩|z
  ·exact Nat.ne_of_gt (Nat.lt_of_lt_of_le (Nat.lt_of_lt_of_le (hfl b hb) hC) (Nat.le_of_succ_le z))
  ·exact(hf b hb).2.2.2.2.1 x c (qA I z).1⟩
 bs:=I.bs
 bsz:=Nat.le_trans I.ok.bsz I.sz
 noex:=fun b o e hb=>by
  rcases(hf b hb).2.2.2.1 with z|z
  ·exact I.ok.noex b o e z
  ·exact absurd (Nat.lt_of_lt_of_le (Heap.lt_size e) (Nat.le_trans I.ok.bsz z)) (Nat.lt_irrefl _)
 exfs:=fun b hb hs=>by
  rcases List.mem_cons.mp (I.stkSub b hs) with z|z
  ·exact(hf b hb).2.1 z
  ·exact(hf b hb).2.2.1 z
 funs:=I.stack
 frf:=I.stkFree
theorem AA {scope:Scope} {C D:Addr} {own:List Str} {fv:List (Str×Nat)} {fp:List Addr} {h1:Heap} {t1:Nat} {m:Str→Option Value} (I:Inv X pins σ H s) (hkind:scope.kind= .function) (hnd:(scope.names.map (·.1)).Nodup)
  (hfr:∀y∈scope.names,y.2= .free→∃c,X.env.cells.lookup y.1=some c) (hfv:FvOk X scope fv) (hD:s.heap.objs.size≤D) (hDC:D<C) (hC:s.heap.objs.size≤C) (hf:∀b∈fp,lS X pins H b) (hfl:∀b∈fp,b<s.heap.objs.size)
  (hns:h1.Ns C m) (hoc:∀x c,(sQ X scope C).lookup x=some c→C<c→∃v,h1.IsCell c v) (hk:∀b o,s.heap.get? b=some o→h1.get? b=some o) (hd:∃n,h1.get? D=some {cls:= .type "list",data:= .seq #[] n}):
  Inv (d4 X s H scope C (fx own fv) fp) [] (gr own fv σ) (bL H D (.lst [])) {s with heap:=h1,toks:=t1}:=by
 have hn:H D=none:=I.hok.fresh hD
 obtain⟨n,hd⟩:=hd
 have hCD:C≠D:=Nat.ne_of_gt hDC
 have hcs:∀x c,(sQ X scope C).lookup x=some c→C<c∨(X.env.cells.lookup x=some c∧c<s.heap.objs.size):=fun x c e=>by
  rcases oy _ _ _ x c e with⟨z,_⟩|z
  ·exact .inl z
  ·exact .inr (qA I z)
 refine⟨xX I hkind hnd hfr hC hf hfl,rfl,I.bare,Un.laid hk hD hn,⟨m,hns,fun i x v e1 e2 e3=> ?_⟩,fun x c e=> ?_,?_,fun x c e=> ?_,fun p hp=>absurd (show p∈([]:List (Addr×Obj)) from hp) (by simp),?_,?_⟩
 ·
  have e1':(own++fv.map (·.1))[i]? =some x:=e1
  have e2':(own.map (fun _=>(none:Option V))++fv.map fun p=>(σ[p.2]?).join)[i]? =some (some v):=e2
  have hi:own.length≤i:=by
   by_cases hi:i<own.length
   ·rw[List.getElem?_append_left (by simpa using hi),List.getElem?_map] at e2'
    cases q:own[i]? with
    |none=>rw[q] at e2';cases e2'
    |some _=>rw[q] at e2';cases e2'
   ·omega
  rw[List.getElem?_append_right hi,List.getElem?_map] at e1'
  rw[List.getElem?_append_right (by simpa using hi),List.getElem?_map,List.length_map] at e2'
  cases q:fv[i - own.length]? with
  |none=>rw[q] at e1';cases e1'
  |some p=>
   rw[q] at e1' e2'
   have ex:p.1=x:=Option.some.inj e1'
   subst ex
   have ev:(σ[p.2]?).join=some v:=Option.some.inj e2'
   obtain⟨g1,g2,g3⟩:=hfv.mem p (List.mem_of_getElem? q)
   have ev2:σ[p.2]? =some (some v):=by
    cases z:σ[p.2]? with
    |none=>rw[z] at ev;cases ev
    |some y=>rw[z] at ev;exact congrArg some ev
   obtain⟨m0,_,hl⟩:=I.loc
   obtain⟨u,r,l⟩:=hl p.2 p.1 v g1 ev2 (.inr g3)
   refine⟨u,r,?_⟩
   have l2:∃c,X.env.cells.lookup p.1=some c∧s.heap.IsCell c (some u):=by
    rcases l with⟨k,_⟩|⟨_,c,e,z⟩
    ·have k':X.env.scope.names.lookup p.1=some .local:=k
     rcases g3 with z|z
     ·rw[z] at k';cases k'
     ·rw[z] at k';cases k'
    ·exact⟨c,e,z⟩
   obtain⟨c,e,o,ho,hdc⟩:=l2
   refine .inr ⟨?_,c,?_,o,hk c o ho,hdc⟩
   ·exact ix g2
   ·show(sQ X scope C).lookup p.1=some c
    unfold sQ
    rw[Az _ _ _ _ fun z=>by cases vM hnd g2 z]
    exact uf (PySem.mem_of_lookup g2) e
 ·rcases hcs x c e with z|⟨z,_⟩
  ·exact hoc x c e z
  ·obtain⟨v,o,ho,hdc⟩:=I.cell x c z
   exact⟨v,o,hk c o ho,hdc⟩
 ·show bL H D (.lst []) C=none
  rw[aX hCD]
  exact I.hok.fresh hC
 ·show bL H D (.lst []) c=none
  rcases hcs x c e with z|⟨z1,z2⟩
  ·rw[aX (Nat.ne_of_gt (Nat.lt_trans hDC z))]
   exact I.hok.fresh (Nat.le_trans hC (Nat.le_of_lt z))
  ·rw[aX (Nat.ne_of_lt (Nat.lt_of_lt_of_le z2 hD))]
   exact I.freeC x c z1
 ·exact I.hok.laid hk hD ⟨by show 0≤sizeLine;exact Nat.zero_le _,[],n,.nil,hd⟩
 ·show(own.map (fun _=>(none:Option V))++fv.map fun p=>(σ[p.2]?).join).length=(own++fv.map (·.1)).length
  simp
end
def AL (X:Cx) (ifs:List Expr) (t:TT):Prop:=
 ∀(pins:List (Addr×Obj)) (s:Shared) (σ:St) (H:Hp) (Q:Bool→Hp→Prop),Inv X pins σ H s→t σ H Q→
  wpAny (model X.prog X.w) X.A (forIn ifs true fun c r=>if r=true then do let ok←isTrue c X.env (eval c X.env);pure (ForInStep.yield ok) else pure (ForInStep.yield r)) (TP X pins σ Q) X.xe s
def BG:TT:=fun _ H Q=>Q true H
theorem gu {X:Cx}:AL X [] BG:=fun _ _ _ H _ I h=>wpAny_tests_nil ⟨H,I,h⟩
theorem oE {X:Cx} {c:Expr} {tc:TT} (h:PT X c tc):AL X [c] tc:=fun pins s σ H Q I hw=>wpAny_tests_one (h pins s σ H Q I hw)
def Aa (J:It) (D:Addr) (σc:St) (g:TG) (tc:TT) (te:TE) (H1:Hp) (Fin:Hp→Prop):Prop:=
 ∃W:Nat→Nat→St→Hp→Prop,(∃m,W 0 m σc (bL H1 D (.lst [])))∧∀i m σ H,W i m σ H→
  (J.stop i H∧Fin H)∨(J.go i H∧∃N:St→Hp→Prop,(∀σ' H',N σ' H'→∃m',m'<m∧W (i+1) m' σ' H')∧
   ∀x H',J.yld i H x H'→g x σ H' fun σ2 H2=>tc σ2 H2 fun b H3=>if b=true then te σ2 H3 fun y H4=>∃ys,H4 D=some (.lst ys)∧ys.length<sizeLine∧N σ2 (bL H4 D (.lst (ys++[y]))) else N σ2 H3)
section
variable {prog:Program} {w:World} {A:Around} {s:Shared}
theorem yp {elt tg iter:Expr} {ifs:List Expr} {scope:Scope} {pos:Pos} {it acc:Value} {env:Env} {R:Result→Shared→Prop} (I:Nat→Shared→Prop)
  (turn:∀n s,I n s→wpAny (model prog w) A (pyNext it) (fun r s1=>match r with
   |none=>R (.ok .next) s1
   |some v=>wpAny (model prog w) A (letOwnedTupleGo tg it v) (fun _ s2=>wpAny (model prog w) A (assign tg env v) (fun _ s3=>
     wpAny (model prog w) A (forIn ifs true fun c r=>if r=true then do let ok←isTrue c env (eval c env);pure (ForInStep.yield ok) else pure (ForInStep.yield r)) (fun ok s4=>
      if ok=true then wpAny (model prog w) A (eval elt env) (fun x s5=>
       wpAny (model prog w) A (call (.builtin "list.append") [acc,x]) (fun _ s6=>∃m,m<n∧I m s6) (fun _ _=>False) s5) (fun _ _=>False) s4
      else∃m,m<n∧I m s4) (fun _ _=>False) s3) (fun _ _=>False) s2) (fun _ _=>False) s1) (fun _ _=>False) s)
  (n:Nat) (h:I n s):codeAny (model prog w) A (.compLoop (.ListComp elt [⟨tg,iter,ifs,0⟩] scope pos) 0 it acc env) R s:=by
 refine codeAny_loop rfl I (fun n s hI=> ?_) n h
 show wpAny _ A (Sem.onRaise (compTurn (.ListComp elt [⟨tg,iter,ifs,0⟩] scope pos) 0 it acc env) (fun x=>do noteFrame x env;theTreesLotGoes x)) _ _ s
 refine wpAny_noted ?_
 rw[compTurn_list]
 have no:∀{α:Type} {t:Sem α} {Q Q':α→Shared→Prop} {E:Value→Shared→Prop} {s:Shared},wpAny (model prog w) A t Q (fun _ _=>False) s→(∀a s',Q a s'→Q' a s')→wpAny (model prog w) A t Q' E s:=
  fun h1 h2=>wpAny_mono h1 h2 fun _ _ z=>False.elim z
 refine wpAny_bind (wpAny_standAt (wpAny_bind (no (turn n s hI) fun r s1 h1=> ?_)))
 cases r with
 |none=>exact wpAny_pure h1
 |some v=>
  refine wpAny_bind (no h1 fun _ s2 h2=>wpAny_bind (no h2 fun _ s3 h3=>wpAny_bind (no h3 fun ok s4 h4=> ?_)))
  cases ok with
  |false=>exact wpAny_pure ⟨rfl,h4⟩
  |true=>exact wpAny_bind (wpAny_bind (no h4 fun x s5 h5=>wpAny_bind (no h5 fun _ s6 h6=>wpAny_pure (wpAny_pure ⟨rfl,h6⟩))))
end
section
variable {X:Cx} {pins:List (Addr×Obj)} {σ:St} {H:Hp} {s:Shared}
theorem rX {M:Model} {A:Around} {E:Value→Shared→Prop} {s:Shared} {scope:Scope} {globals:Addr} {closure:List (Str×Addr)} {qual:Str} {env:Env} {Q:Env→Shared→Prop}
  (h:Q (newEnv scope s.heap.objs.size globals (cellsFrom (s.heap.objs.size+1) scope.names closure) qual none .none (some env) builtinsNs) {s with heap:=pushCells (s.heap.push {cls:= .type "dict",data:= .dict #[]}) scope.names}):
  wpAny M A (newFunctionEnv scope globals closure [] qual none .none (some env)) Q E s:=by
 simp only[newFunctionEnv,Option.isSome_some,if_true]
 refine wpAny_bind (wpAny_alloc ?_)
 refine wpAny_bind (wpAny_layCells _ (fun name kind cells=>by cases hkc:kind==NameKind.cell<;>simp[hkc]) _ _ _ _ ?_)
 rw[show({s with heap:=s.heap.push {cls:= .type "dict",data:= .dict #[]}}:Shared).heap.objs.size=s.heap.objs.size+1 from Heap.size_push ..]
 rw[List.forIn_nil]
 exact wpAny_bind (wpAny_pure (wpAny_pure h))
theorem oJ {elt tg iter:Expr} {ifs:List Expr} {scope:Scope} {pos:Pos} {own:List Str} {fv:List (Str×Nat)} {g:TG} {tc:TT} {te:TE} {E:Value→Shared→Prop} {it:Addr} {fp:List Addr} {tn:Nat→Heap→Prop} {J:It} {Fin:Addr→Hp→Prop}
  {RR:Value→Addr→Result→Shared→Prop} (I:Inv X pins σ H s) (hc:X.calm=true) (hkind:scope.kind= .function) (hnd:(scope.names.map (·.1)).Nodup) (hfr:∀y∈scope.names,y.2= .free→∃c,X.env.cells.lookup y.1=some c) (hfv:FvOk X scope fv)
  (T:Turn X.prog X.w X.K tg J fp it tn) (st:tn 0 s.heap) (hf:∀b∈fp,lS X pins H b)
  (hg:∀C,PG (d4 X s H scope C (fx own fv) fp) tg g) (ht:∀C,AL (d4 X s H scope C (fx own fv) fp) ifs tc) (he:∀C,PE (d4 X s H scope C (fx own fv) fp) elt te)
  (hR:∀D,H D=none→Aa J D (gr own fv σ) g tc te H (Fin D))
  (hRR:∀D C H' s',Inv X pins σ H' s'→Fin D H'→(∃m,s'.heap.Ns C m)→s.heap.objs.size≤C→H' C=none→RR (.ref D) C (.ok .next) s'):
  wpAny (model X.prog X.w) X.A (newList []) (fun acc s3=>wpAny (model X.prog X.w) X.A (newFunctionEnv scope X.env.globals (gy X.env scope.names []) [] X.env.qual none .none (some X.env)) (fun cenv s4=>
   codeAny (model X.prog X.w) X.A (.compStart (.ListComp elt [⟨tg,iter,ifs,0⟩] scope pos) 0 (.ref it) acc {cenv with scope:=relabel scope X.env}) (RR acc cenv.locals) s4) E s3) E s:=by
 refine wpAny_newObj_type ?_
 generalize hH2:s.heap.push {cls:= .type "list",dict:=none,data:= .seq ([]:List Value).toArray}=h2
 have hz:h2.objs.size=s.heap.objs.size+1:=by rw[←hH2,Heap.size_push]
 refine rX (s:={s with heap:=h2}) ?_
 have hDC:s.heap.objs.size<h2.objs.size:=by rw[hz];exact Nat.lt_succ_self _
 have hC:s.heap.objs.size≤h2.objs.size:=Nat.le_of_lt hDC
 generalize hH1:pushCells (h2.push {cls:= .type "dict",data:= .dict #[]}) scope.names=h1
 have kp2:∀b o,h2.get? b=some o→h1.get? b=some o:=fun b o e=>by rw[←hH1];exact pushCells_keeps _ _ b o (Heap.get?_push_of_some _ e)
 have kp:∀b o,s.heap.get? b=some o→h1.get? b=some o:=fun b o e=>kp2 b o (by rw[←hH2];exact Heap.get?_push_of_some _ e)
 have hns:h1.Ns h2.objs.size (fun _=>none):=by rw[←hH1];exact(Heap.Ns.new h2 (.type "dict")).keeps (pushCells_keeps _ _)
 have hoc:∀x c,(sQ X scope h2.objs.size).lookup x=some c→h2.objs.size<c→∃v,h1.IsCell c v:=fun x c e hlt=>by
  have e':(cellsFrom (h2.push {cls:= .type "dict",data:= .dict #[]}).objs.size scope.names (gy X.env scope.names [])).lookup x=some c:=by rw[Heap.size_push];exact e
  rcases nZ _ _ _ x c e' with⟨_,z⟩|z
  ·exact⟨none,by rw[←hH1];exact z⟩
  ·exact absurd (Nat.lt_trans (qA I z).2 (Nat.lt_trans hDC hlt)) (Nat.lt_irrefl _)
 have hd:∃n,h1.get? s.heap.objs.size=some {cls:= .type "list",data:= .seq #[] n}:=⟨0,kp2 _ _ (by rw[←hH2];exact Heap.get?_push_size _ rfl)⟩
 have hfl:∀b∈fp,b<s.heap.objs.size:=fun b hb=>by
  obtain⟨o,e,_⟩:=T.obj 0 _ st b hb
  exact Heap.lt_size e
 have hn:H s.heap.objs.size=none:=I.hok.fresh (Nat.le_refl _)
 obtain⟨W,⟨m0,w0⟩,turn⟩:=hR s.heap.objs.size hn
 have fpX:∀{pl:List (Addr×Obj)} {H':Hp},(∀b∈fp,H' b=none)→(∀p∈pl,p.1∉fp)→∀b∈fp,lS (d4 X s H scope h2.objs.size (fx own fv) fp) pl H' b:=fun{pl H'} hn' hpl b hb=>by
  have ok:=xX (C:=h2.objs.size) (N:=fx own fv) I hkind hnd hfr hC hf hfl
  exact⟨hn' b hb,(ok.exf b hb).1,ok.exfs b hb,.inl hb,(ok.exf b hb).2,fun p hp=>by
   have hp':p∈([]:List (Addr×Obj))++pl:=hp
   intro z
   exact hpl p (by simpa using hp') (by rw[z];exact hb)⟩
 have loop:∀s4:Shared,s4={s with heap:=h1}→
   codeAny (model X.prog X.w) X.A (.compLoop (.ListComp elt [⟨tg,iter,ifs,0⟩] scope pos) 0 (.ref it) (.ref s.heap.objs.size) (compEnvC scope (sQ X scope h2.objs.size) h2.objs.size X.env)) (RR (.ref s.heap.objs.size) h2.objs.size) s4:=by
  rintro s4 rfl
  have I0:Inv (d4 X s H scope h2.objs.size (fx own fv) fp) [] (gr own fv σ) (bL H s.heap.objs.size (.lst [])) {s with heap:=h1}:=
   AA I hkind hnd hfr hfv (Nat.le_refl _) hDC hC hf hfl hns hoc kp hd
  have st0:tn 0 h1:=T.keep 0 _ _ st fun b _ o e=>kp b o e
  have fr0:∀b∈fp,(bL H s.heap.objs.size (.lst [])) b=none:=fun b hb=>by
   rw[aX (Nat.ne_of_lt (hfl b hb))]
   exact(hf b hb).1
  refine yp (fun n s'=>∃i σ' H',Inv (d4 X s H scope h2.objs.size (fx own fv) fp) [] σ' H' s'∧tn i s'.heap∧(∀b∈fp,H' b=none)∧W i n σ' H') ?_ m0 ⟨0,_,_,I0,st0,fr0,w0⟩
  rintro n s5 ⟨i,σ5,H5,I5,st5,fr5,w5⟩
  rcases turn i n σ5 H5 w5 with⟨stop,fin⟩|⟨go,N,hN,step⟩
  ·refine dH (T.done (d4 X s H scope h2.objs.size (fx own fv) fp) rfl rfl rfl hc i [] s5 σ5 H5 (fun _ _=>False) I5 (fpX fr5 (by simp)) st5 stop) fun r s6 ⟨hr,I6⟩=> ?_
   subst hr
   obtain⟨mm,hm,_⟩:=I6.loc
   refine hRR _ _ H5 s6 ?_ fin ⟨mm,hm⟩ hC I6.free
   exact I.call' (ch:=fp) I6.os I6.base I6.hok I6.bare fun b hb=>⟨(hf b hb).2.2.2.1,(hf b hb).2.1,(hf b hb).2.2.2.2.1,(hf b hb).2.2.2.2.2⟩
  ·refine dH (T.item (d4 X s H scope h2.objs.size (fx own fv) fp) rfl rfl rfl hc i [] s5 σ5 H5 (fun _ _=>False) I5 (fpX fr5 (by simp)) st5 go) fun r s6 ⟨u,hr,h6⟩=> ?_
   subst hr
   refine dH h6 fun _ s7 ⟨x,H7,I7,r7,y7,st7,fr7⟩=> ?_
   have I7':=I7.pinned (fp:=fp) (fpX fr7 (by simp)) (T.obj _ _ st7)
   have back:∀{σ8:St} {H8:Hp} {s8:Shared},Inv (d4 X s H scope h2.objs.size (fx own fv) fp) ([]++nF fp s7.heap) σ8 H8 s8→N σ8 H8→∃m,m<n∧∃i σ' H',Inv (d4 X s H scope h2.objs.size (fx own fv) fp) [] σ' H' s8∧tn i s8.heap∧(∀b∈fp,H' b=none)∧W i m σ' H':=fun{σ8 H8 s8} I8 n8=>by
    obtain⟨m',hm,w8⟩:=hN σ8 H8 n8
    refine⟨m',hm,i+1,σ8,H8,I8.unpinned,T.keep _ _ _ st7 fun b hb o e=>(I8.pin (b,o) (List.mem_append_right _ (List.mem_append_right _ (iz hb e)))).1,fun b hb=> ?_,w8⟩
    obtain⟨o,e,d⟩:=T.obj _ _ st7 b hb
    exact(I8.pin (b,o) (List.mem_append_right _ (List.mem_append_right _ (iz hb e)))).2.1
   refine dH (hg _ _ s7 σ5 H7 x u _ I7' r7 (step x H7 y7)) fun _ s8 ⟨σ8,H8,I8,q8⟩=> ?_
   refine dH (ht _ _ s8 σ8 H8 _ I8 q8) fun ok s9 ⟨H9,I9,q9⟩=> ?_
   cases ok with
   |false=>
    rw[if_neg Bool.false_ne_true] at q9⊢
    exact back I9 q9
   |true=>
    rw[if_pos rfl] at q9⊢
    refine dH (he _ _ s9 σ8 H9 _ I9 q9) fun y s10 ⟨v10,H10,I10,r10,ys,hy,hl,q10⟩=> ?_
    refine dH (eS _ s10 σ8 H10 (.ref s.heap.objs.size) [v10] (.ref s.heap.objs.size) [y] (fun _ H11=>N σ8 H11) I10 rfl (.cons r10 .nil) ⟨_,ys,v10,rfl,rfl,hy,hl,q10⟩) fun _ s11 ⟨v11,H11,I11,_,q11⟩=> ?_
    exact back I11 q11
 exact codeAny_compStart_list (loop _ rfl) (T.self _ 0 _ _ _ (T.keep 0 _ _ st fun b _ o e=>kp b o e) (loop _ rfl))
def qY (own:List Str) (fv:List (Str×Nat)) (wi:TI) (g:TG) (tc:TT) (te:TE):TE:=fun σ H Q=>wi σ H fun J H1=>∀D,H1 D=none→Aa J D (gr own fv σ) g tc te H1 fun H'=>Q (.ref D) H'
theorem nt {scope:Scope} (ok:X.Ok) (h:∀y∈scope.names,y.2= .free→(X.env.scope.names.lookup y.1=some .cell∨X.env.scope.names.lookup y.1=some .free)):∀y∈scope.names,y.2= .free→∃c,X.env.cells.lookup y.1=some c:=
 fun y hy e=>ok.has y.1 (h y hy e)
theorem D3 {scope sc:Scope} (h:(scope.names.all fun y=> !(y.2==NameKind.free)||(sc.names.lookup y.1==some NameKind.cell)||(sc.names.lookup y.1==some NameKind.free))=true):
  ∀y∈scope.names,y.2= .free→(sc.names.lookup y.1=some .cell∨sc.names.lookup y.1=some .free):=fun y hy e=>by
 have q:=List.all_eq_true.mp h y hy
 rw[e] at q
 simpa using q
theorem gb {elt tg iter:Expr} {ifs:List Expr} {scope:Scope} {pos:Pos} (own:List Str) (fv:List (Str×Nat)) {wi:TI} {g:TG} {tc:TT} {te:TE} (hc:X.calm=true) (hi:PI X tg iter wi)
  (hg:∀s H C fp,PG (d4 X s H scope C (fx own fv) fp) tg g) (ht:∀s H C fp,AL (d4 X s H scope C (fx own fv) fp) ifs tc) (he:∀s H C fp,PE (d4 X s H scope C (fx own fv) fp) elt te) (hfv:FvOk X scope fv)
  (hfr0:(scope.names.all fun y=> !(y.2==NameKind.free)||(X.env.scope.names.lookup y.1==some NameKind.cell)||(X.env.scope.names.lookup y.1==some NameKind.free))=true)
  (hkind:scope.kind= .function:=by rfl) (hnd:(scope.names.map (·.1)).Nodup:=by decide+kernel)
  (hnames:∀y∈scope.names,y.2= .local→scope.names.lookup y.1=some .local:=by decide+kernel) (hs:∀x,foldedSetIterable iter X.env x=pure x:=by intro _;rfl):
  PE X (.ListComp elt [⟨tg,iter,ifs,0⟩] scope pos) (qY own fv wi g tc te):=by
 intro pins s σ H Q I h
 have hfr:=D3 hfr0
 rw[eval_ListComp]
 refine wpAny_comprehension_free (use:=none) rfl hs (nW (nt I.ok hfr)) hkind hnames (dH (hi pins s σ H _ I h) fun xv s1 h1=>dH h1 fun itv s2 h2=> ?_)
 obtain⟨it,fp,tn,J,H2,e,I2,T,st2,f2,R⟩:=h2
 subst e
 refine oJ I2 hc hkind hnd (nt I.ok hfr) hfv T st2 f2 (fun C=>hg _ _ C _) (fun C=>ht _ _ C _) (fun C=>he _ _ C _) (Fin:=fun D H'=>Q (.ref D) H') R ?_
 intro D C H' s' I' fin hm hC hn
 obtain⟨m,hm⟩:=hm
 refine⟨m,hm,fun h' hs'=>⟨.ref D,H',?_,rfl,fin⟩⟩
 obtain⟨f0,f1,_,f3,f4,f5⟩:=I2.fpOk hC hn
 exact I'.turned (t':=s'.toks) (fun b o hb q=>(hs'.2 b hb).trans q) f0 f1 f3 f4 f5
theorem Df {elt tg iter:Expr} {ifs:List Expr} {scope:Scope} {pos spos py:Pos} {i:Nat} {x:Str} (own:List Str) (fv:List (Str×Nat)) {wi:TI} {g:TG} {tc:TT} {te:TE} (hN:X.N.Nodup) (hi':X.N[i]? =some x) (hx:X.env.scope.names.lookup x=some .local)
  (hc:X.calm=true) (hi:PI X tg iter wi)
  (hg:∀s H C fp,PG (d4 X s H scope C (fx own fv) fp) tg g) (ht:∀s H C fp,AL (d4 X s H scope C (fx own fv) fp) ifs tc) (he:∀s H C fp,PE (d4 X s H scope C (fx own fv) fp) elt te) (hfv:FvOk X scope fv)
  (hfr0:(scope.names.all fun y=> !(y.2==NameKind.free)||(X.env.scope.names.lookup y.1==some NameKind.cell)||(X.env.scope.names.lookup y.1==some NameKind.free))=true)
  (hsw:swapsWith (.ListComp elt [⟨tg,iter,ifs,0⟩] scope pos) (some (.Name x py)) spos.line X.env=pure true:=by rfl)
  (hkind:scope.kind= .function:=by rfl) (hnd:(scope.names.map (·.1)).Nodup:=by decide+kernel)
  (hnames:∀y∈scope.names,y.2= .local→scope.names.lookup y.1=some .local:=by decide+kernel) (hs:∀x,foldedSetIterable iter X.env x=pure x:=by intro _;rfl):
  PS X (.Assign [.Name x py] (.ListComp elt [⟨tg,iter,ifs,0⟩] scope pos) spos) (AU (qY own fv wi g tc te) (tX i)):=by
 intro pins s σ H D I h
 have hfr:=D3 hfr0
 rw[exec_Assign_Name_used _ _ _ _ hsw]
 refine wpAny_bind (wpAny_standAt (wpAny_bind ?_))
 show wpAny _ _ (do let _←comprehension (.ListComp elt [⟨tg,iter,ifs,0⟩] scope pos) scope X.env _ (newList []) false (eval iter X.env) (some (assign (.Name x py) X.env))) _ _ s
 refine wpAny_bind (dH (wpAny_comprehension_free (use:=some (assign (.Name x py) X.env)) (Q:=fun _ s'=>SP X pins D .next s') rfl hs (nW (nt I.ok hfr)) hkind hnames
  (dH (hi pins s σ H _ I h) fun xv s1 h1=>dH h1 fun itv s2 h2=> ?_)) fun _ s' q=>wpAny_pure (wpAny_pure q))
 obtain⟨it,fp,tn,J,H2,e,I2,T,st2,f2,R⟩:=h2
 subst e
 refine oJ I2 hc hkind hnd (nt I.ok hfr) hfv T st2 f2 (fun C=>hg _ _ C _) (fun C=>ht _ _ C _) (fun C=>he _ _ C _) (Fin:=fun L H'=>D.nx (σ.set i (some (.ref L))) H') R ?_
 intro L C H' s' I' fin hm hC hn
 obtain⟨m,hm⟩:=hm
 obtain⟨f0,f1,f2',f3,f4,f5⟩:=I2.fpOk hC hn
 show wpAny _ _ (assign (.Name x py) X.env (.ref L)) _ _ s'
 refine wpAny_assign_Name (qZ I' hN hi' (.inl hx) (v:= .ref L) rfl (fun s'' I'' ⟨a,sb,ha⟩=> ?_) (.inr hx))
 have hCa:C≠a:=by
  rcases ha with z|z
  ·rw[z];exact f1
  ·exact fun q=>f4 x a z q.symm
 refine⟨m,hm.sameBut sb hCa,fun h' hs'=>⟨_,H',?_,fin⟩⟩
 exact I''.turned (t':=s''.toks) (fun b o hb q=>(hs'.2 b hb).trans q) f0 f1 f3 f4 f5
end
end L2
namespace L2
open PySem PySem.Spec PyProof.Rows
def Bw (P:Program) (w:World) (K:PySem.W.Frag) (mg:Str→Option Value) (base:Heap) (k:Nat) (x:Str) (ps:List Str) (sp:Sp):Prop:=
 ∃(f:Addr) (fd:FuncData),FnOk P w K mg base dR k f fd ps sp∧Binds K fd ps []∧PySem.W.keepIn K (.ref f)=true∧mg x=some (.ref f)
theorem cx {X:Cx} {k j:Nat} {x:Str} {ps:List Str} {sp:Sp} {e:Expr} {es:List Expr} {t:TA} {p pos:Pos} (C:Bw X.prog X.w X.K X.mg X.base k x ps sp) (hr:Room j X.A) (ha:PA X (e::es) t) (hjk:k≤j:=by decide) (hg:Gl X x:=by rfl)
  (hdb:(x==("__debug__":Str))=false:=by decide) (he:starEach (e::es) X.env=(false,eval e X.env)::starEach es X.env:=by rfl) (hpl:(backTo pos (starEach es X.env)).any (·.1)=false:=by rfl):
  PE X (.Call (.Name x p) (e::es) [] pos) (qM sp [] E0 t):=by
 obtain⟨f,fd,F,b,kp,m⟩:=C
 exact Dq F (hr.mono hjk) hg m kp b .nil dS ha hdb he hpl
section
variable {σ:St} {H:Hp} {Q:VK} {D:Ends}
end
section
variable {σ:St} {H:Hp} {Q:VK} {D:Ends}
end
theorem FQ {α:Type} {xs:List α} {i:Int} {v:α} (h0:0≤i) (h:xs[i.toNat]? =some v):l8 xs i=some v:=by
 have q:=xg h
 rwa [Int.toNat_of_nonneg h0] at q
theorem Same.tup {K:PySem.W.Frag} {H H':Hp} {a:Addr} {xs:List V} (e:Same H H') (h:SqT K H a xs):SqT K H' a xs:=by
 rcases h with(h|⟨o,h⟩)|h
 ·exact .inl (.inl (e _ _ h))
 ·exact .inl (.inr ⟨o,e _ _ h⟩)
 ·exact .inr h
theorem cb {H:Hp} {p:Addr} (h:H p=none) (o:HO):Same H (bL H p o):=fun b u q=>by rw[aX (cj q h)];exact q
end L2
namespace L2
open PySem PySem.Spec PyProof.Rows
theorem DY:bootBuiltins "max"=some (.builtin "max"):=by decide+kernel
theorem kJ:bootBuiltins "isinstance"=some (.builtin "isinstance"):=by decide+kernel
theorem ug:bootBuiltins "len"=some (.builtin "len"):=by decide+kernel
theorem nI:bootBuiltins "sorted"=some (.builtin "sorted"):=by decide+kernel
theorem GD:bootBuiltins "all"=some (.builtin "all"):=by decide+kernel
theorem nS:bootBuiltins "list"=some (.type "list"):=by decide+kernel
theorem kO:bootBuiltins "tuple"=some (.type "tuple"):=by decide+kernel
end L2
namespace L2
open PySem PySem.Spec PyProof.Rows
section
variable {X:Cx}
theorem um:CallR X (.builtin "sorted") (fun xs H Q=>∃(p:Addr) (ns:List Int),xs=[.ref p]∧SqL X.K H p (ns.map V.int)∧ns.length<64∧∀(l:Addr) (ms:List Int),H l=none→ms.Perm ns→ms.Pairwise (·≤·)→Q (.ref l) (bL H l (.lst (ms.map V.int)))):=by
 intro pins s σ H xs us Q I r h
 obtain⟨p,ns,rfl,hq,h64,q⟩:=h
 obtain⟨u,rfl,ru⟩:=iR r
 cases ru
 obtain⟨its,rv,pl,hz⟩:=I.list hq
 have hl:=rv.length
 rw[List.length_map] at hl
 refine sorted_ints pl.isList (iw rv) (by omega) fun out ms hi hp hs=> ?_
 obtain⟨e,he⟩:=sortedAll_at s.heap its out
 have hlen:ms.length=ns.length:=hp.length_eq
 have hout:out.toList.length=ms.length:=hi.length
 refine⟨.ref (s.heap.objs.size+1),_,I.laid (t':=s.toks) (o:= .lst (ms.map V.int)) (fun b ob z=>sortedAll_old z) (Nat.le_succ _) ?_,rfl,q _ ms (I.hok.fresh (Nat.le_succ _)) hp hs⟩
 refine⟨?_,out.toList,e,h8 hi,he⟩
 rw[List.length_map,hlen]
 have:(64:Nat)≤sizeLine:=by decide
 omega
end
end L2
namespace L3
open PySem L2
abbrev D:=PyData
inductive PV where
 |fz (d:D)
 |ow (ds:List D)
 |pl (i:Nat)
abbrev aV:=List (Option PV)
structure Xc where
 cls:Str
 fs:List (Str×D)
inductive Res (α:Type) where
 |ok (a:α)
 |er (x:Xc)
 |bad
namespace Res
noncomputable def bind {α β:Type} (r:Res α) (f:α→Res β):Res β:=match r with
 | .ok a=>f a
 | .er x=> .er x
 | .bad=> .bad
noncomputable def ofO {α:Type}:Option α→Res α
 |some a=> .ok a
 |none=> .bad
theorem bind_ok {α β:Type} (a:α) (f:α→Res β):(Res.ok a).bind f=f a:=rfl
end Res
abbrev b6:=Addr→Prop
noncomputable def ck (O:b6) (p:Addr):b6:=fun b=>O b∨b=p
noncomputable def y6 (O:b6) (p:Addr):b6:=fun b=>O b∧b≠p
noncomputable def noO:b6:=fun _=>False
def Ev (O:b6) (H:Hp) (O':b6) (H':Hp):Prop:=∀b o,H b=some o→¬O b→H' b=some o∧¬O' b
theorem Ev.refl {O:b6} {H:Hp}:Ev O H O H:=fun _ _ h n=>⟨h,n⟩
theorem Ev.trans {O O1 O2:b6} {H H1 H2:Hp} (a:Ev O H O1 H1) (b:Ev O1 H1 O2 H2):Ev O H O2 H2:=fun p o h n=>let⟨h1,n1⟩:=a p o h n;b p o h1 n1
theorem Ev.grow {O:b6} {H H':Hp} (s:Same H H'):Ev O H O H':=fun b o h n=>⟨s b o h,n⟩
theorem Ev.add {O:b6} {H H':Hp} {p:Addr} (s:Same H H') (hp:H p=none):Ev O H (ck O p) H':=fun b o h n=>⟨s b o h,fun z=>z.elim n fun e=>by subst e;rw[h] at hp;cases hp⟩
theorem Ev.sub {O O':b6} {H:Hp} (h:∀b,O' b→O b):Ev O H O' H:=fun b o e n=>⟨e,fun z=>n (h b z)⟩
theorem Ev.mut {O:b6} {H:Hp} {p:Addr} (hp:O p) (u:HO):Ev O H O (bL H p u):=fun b o h n=>⟨by rw[aX (fun e=>n (by rw[e];exact hp))];exact h,n⟩
def SqLX (K:PySem.W.Frag) (H:Hp) (a:Addr) (xs:List V):Prop:=Rd H a (.lst xs)∨∃(its:List Value) (n:Nat),K.lookup a=some {cls:= .type "list",data:= .seq its.toArray n}∧xs.length≤sizeLine∧Vals xs its
theorem SqLX.sq {K:PySem.W.Frag} {H:Hp} {a:Addr} {xs:List V} (h:SqLX K H a xs):SqL K H a xs:=by
 rcases h with h|⟨its,n,h1,h2,h3⟩
 ·exact .inl h
 ·exact .inr ⟨_,its.toArray,n,h1,rfl,rfl,rfl,by rw[List.size_toArray,←h3.length];exact h2,by simpa using h3⟩
theorem SqLX.of {K:PySem.W.Frag} {H:Hp} {a:Addr} {xs:List V} (h:H a=some (.lst xs)):SqLX K H a xs:= .inl (.inl h)
theorem SqLX.same {K:PySem.W.Frag} {H H':Hp} {a:Addr} {xs:List V} (e:Same H H') (h:SqLX K H a xs):SqLX K H' a xs:=by
 rcases h with(h|⟨o,h⟩)|h
 ·exact .inl (.inl (e _ _ h))
 ·exact .inl (.inr ⟨o,e _ _ h⟩)
 ·exact .inr h
theorem jG (H:Hp):Same (fun _=>none) H:=fun _ _ h=>by cases h
def SqLO (O:b6) (K:PySem.W.Frag) (H:Hp) (a:Addr) (xs:List V):Prop:=SqLX K H a xs∧(O a→SqLX K (fun _=>none) a xs)
def SqTO (O:b6) (K:PySem.W.Frag) (H:Hp) (a:Addr) (xs:List V):Prop:=SqT K H a xs∧(O a→SqT K (fun _=>none) a xs)
section
variable {O O':b6} {K:PySem.W.Frag} {H H':Hp} {a:Addr} {xs:List V}
theorem SqLO.ev (h:SqLO O K H a xs) (e:Ev O H O' H'):SqLO O' K H' a xs:=by
 obtain⟨h,k⟩:=h
 by_cases z:O a
 ·exact⟨SqLX.same (jG H') (k z),fun _=>k z⟩
 ·rcases h with(h|⟨o,h⟩)|h
  ·obtain⟨h1,h2⟩:=e a _ h z
   exact⟨.inl (.inl h1),fun y=>absurd y h2⟩
  ·obtain⟨h1,h2⟩:=e a _ h z
   exact⟨.inl (.inr ⟨o,h1⟩),fun y=>absurd y h2⟩
  ·exact⟨.inr h,fun _=> .inr h⟩
theorem SqTO.ev (h:SqTO O K H a xs) (e:Ev O H O' H'):SqTO O' K H' a xs:=by
 obtain⟨h,k⟩:=h
 by_cases z:O a
 ·exact⟨(jG H').tup (k z),fun _=>k z⟩
 ·rcases h with(h|⟨o,h⟩)|h
  ·obtain⟨h1,h2⟩:=e a _ h z
   exact⟨.inl (.inl h1),fun y=>absurd y h2⟩
  ·obtain⟨h1,h2⟩:=e a _ h z
   exact⟨.inl (.inr ⟨o,h1⟩),fun y=>absurd y h2⟩
  ·exact⟨.inr h,fun _=> .inr h⟩
end
mutual
inductive DV (O:b6) (K:PySem.W.Frag) (H:Hp):V→D→Prop
 |non:DV O K H .non .none
 |bl (b:Bool):DV O K H (.bl b) (.bool b)
 |int (i:Int):DV O K H (.int i) (.int i)
 |str (x:Str):DV O K H (.str x) (.str x)
 |tup {a:Addr} {xs:List V} {ds:List D}:SqTO O K H a xs→DVs O K H xs ds→DV O K H (.ref a) (.tuple ds)
 |lst {a:Addr} {xs:List V} {ds:List D}:SqLO O K H a xs→DVs O K H xs ds→DV O K H (.ref a) (.list ds)
inductive DVs (O:b6) (K:PySem.W.Frag) (H:Hp):List V→List D→Prop
 |nil:DVs O K H [] []
 |cons {v:V} {vs:List V} {d:D} {ds:List D}:DV O K H v d→DVs O K H vs ds→DVs O K H (v::vs) (d::ds)
end
section
variable {O O':b6} {K:PySem.W.Frag} {H H':Hp}
mutual
theorem DV.ev (e:Ev O H O' H'):∀{v:V} {d:D},DV O K H v d→DV O' K H' v d
 |_,_,.non=> .non
 |_,_,.bl b=> .bl b
 |_,_,.int i=> .int i
 |_,_,.str x=> .str x
 |_,_,.tup h hs=> .tup (h.ev e) (DVs.ev e hs)
 |_,_,.lst h hs=> .lst (h.ev e) (DVs.ev e hs)
theorem DVs.ev (e:Ev O H O' H'):∀{vs:List V} {ds:List D},DVs O K H vs ds→DVs O' K H' vs ds
 |_,_,.nil=> .nil
 |_,_,.cons h hs=> .cons (DV.ev e h) (DVs.ev e hs)
end
theorem DVs.length:∀{vs:List V} {ds:List D},DVs O K H vs ds→vs.length=ds.length
 |_,_,.nil=>rfl
 |_,_,.cons _ t=>by rw[List.length_cons,List.length_cons,t.length]
theorem DVs.get:∀{vs:List V} {ds:List D} {i:Nat} {d:D},DVs O K H vs ds→ds[i]? =some d→∃v,vs[i]? =some v∧DV O K H v d
 |_,_,_,_,.nil,e=>by simp at e
 |_,_,0,_,.cons h _,e=>by simp at e;subst e;exact⟨_,rfl,h⟩
 |_,_,i+1,d,.cons _ t,e=>by
  obtain⟨v,h1,h2⟩:=DVs.get (i:=i) (d:=d) t (by simpa using e)
  exact⟨v,by simpa using h1,h2⟩
theorem DVs.getV:∀{vs:List V} {ds:List D} {i:Nat} {v:V},DVs O K H vs ds→vs[i]? =some v→∃d,ds[i]? =some d∧DV O K H v d
 |_,_,_,_,.nil,e=>by simp at e
 |_,_,0,_,.cons h _,e=>by simp at e;subst e;exact⟨_,rfl,h⟩
 |_,_,i+1,v,.cons _ t,e=>by
  obtain⟨d,h1,h2⟩:=DVs.getV (i:=i) (v:=v) t (by simpa using e)
  exact⟨d,by simpa using h1,h2⟩
theorem DVs.append:∀{vs ws:List V} {ds es:List D},DVs O K H vs ds→DVs O K H ws es→DVs O K H (vs++ws) (ds++es)
 |_,_,_,_,.nil,h=>h
 |_,_,_,_,.cons h t,g=> .cons h (DVs.append t g)
theorem DVs.take:∀{vs:List V} {ds:List D} (n:Nat),DVs O K H vs ds→DVs O K H (vs.take n) (ds.take n)
 |_,_,0,_=> .nil
 |_,_,_+1,.nil=> .nil
 |_,_,n+1,.cons h t=> .cons h (DVs.take n t)
theorem DVs.drop:∀{vs:List V} {ds:List D} (n:Nat),DVs O K H vs ds→DVs O K H (vs.drop n) (ds.drop n)
 |_,_,0,h=>h
 |_,_,_+1,.nil=> .nil
 |_,_,n+1,.cons _ t=>DVs.drop n t
theorem DVs.flat {vs:List V} {ds:List D} (h:DVs O K H vs ds):∀n:Nat,DVs O K H (List.replicate n vs).flatten (List.replicate n ds).flatten
 |0=> .nil
 |n+1=>by rw[List.replicate_succ,List.replicate_succ,List.flatten_cons,List.flatten_cons];exact h.append (DVs.flat h n)
mutual
theorem DV.plain:∀{v:V} {d:D},DV O K H v d→L2.DV K H v d
 |_,_,.non=> .non
 |_,_,.bl b=> .bl b
 |_,_,.int i=> .int i
 |_,_,.str x=> .str x
 |_,_,.tup h hs=> .tup h.1 (DVs.plain hs)
 |_,_,.lst h hs=> .lst h.1.sq (DVs.plain hs)
theorem DVs.plain:∀{vs:List V} {ds:List D},DVs O K H vs ds→L2.DVs K H vs ds
 |_,_,.nil=> .nil
 |_,_,.cons h hs=> .cons (DV.plain h) (DVs.plain hs)
end
end
def DX (O:b6) (K:PySem.W.Frag) (H:Hp) (v:V):D→Prop
 | .list ds=>∃a xs,v= .ref a∧SqLX K H a xs∧DVs O K H xs ds
 |d=>DV O K H v d
theorem DV.x {O:b6} {K:PySem.W.Frag} {H:Hp} {v:V} {d:D} (h:DV O K H v d):DX O K H v d:=by
 cases h with
 |lst h hs=>exact⟨_,_,rfl,h.1,hs⟩
 |non=>exact .non
 |bl b=>exact .bl b
 |int i=>exact .int i
 |str x=>exact .str x
 |tup h hs=>exact .tup h hs
theorem DX.plain {O:b6} {K:PySem.W.Frag} {H:Hp} {v:V} {d:D} (h:DX O K H v d):L2.DV K H v d:=by
 cases d with
 |list ds=>
  obtain⟨a,xs,rfl,h1,h2⟩:=h
  exact .lst h1.sq h2.plain
 |none=>exact DV.plain h
 |bool b=>exact DV.plain h
 |int i=>exact DV.plain h
 |str x=>exact DV.plain h
 |tuple ds=>exact DV.plain h
 |dict kvs=>exact DV.plain h
def SlotOk (K:PySem.W.Frag) (H0:Hp) (O:b6) (H:Hp) (v:V):PV→Prop
 | .fz d=>DV O K H v d
 | .ow ds=>∃a vs,v= .ref a∧O a∧H0 a=none∧H a=some (.lst vs)∧DVs O K H vs ds
 | .pl _=>False
structure Rl (K:PySem.W.Frag) (B:b6) (H0:Hp) (O:b6) (σ:St) (H:Hp) (ρ:aV):Prop where
 same:Same H0 H
 bo:∀a,B a→O a
 bd:∀a,B a→H0 a≠none
 od:∀a,H a=none→¬O a
 len:σ.length=ρ.length
 slot:∀(i:Nat) (x:PV),ρ[i]? =some (some x)→∃v,σ[i]? =some (some v)∧SlotOk K H0 O H v x
 one:∀(i j:Nat) (ds es:List D) (v:V),ρ[i]? =some (some (.ow ds))→ρ[j]? =some (some (.ow es))→σ[i]? =some (some v)→σ[j]? =some (some v)→i=j
def PvOk (K:PySem.W.Frag) (H0:Hp) (O:b6) (σ:St) (H:Hp) (ρ:aV) (v:V):PV→Prop
 | .fz d=>DV O K H v d
 | .ow ds=>∃a vs,v= .ref a∧O a∧H0 a=none∧H a=some (.lst vs)∧DVs O K H vs ds∧∀(i:Nat) (es:List D),ρ[i]? =some (some (.ow es))→σ[i]?≠some (some (.ref a))
 | .pl i=>σ[i]? =some (some v)
def jC:PV→Prop
 | .ow _=>False
 |_=>True
noncomputable def dM:PV→PV
 | .ow ds=> .fz (.list ds)
 |p=>p
section
variable {K:PySem.W.Frag} {B O O':b6} {H0 H H':Hp} {σ:St} {ρ ρ':aV} {v:V}
theorem SlotOk.grow {x:PV} (s:Same H H') (h:SlotOk K H0 O H v x):SlotOk K H0 O H' v x:=by
 cases x with
 |fz d=>exact DV.ev (Ev.grow s) h
 |ow ds=>
  obtain⟨a,vs,e,h1,h2,h3,h4⟩:=h
  exact⟨a,vs,e,h1,h2,s _ _ h3,h4.ev (Ev.grow s)⟩
 |pl i=>exact h
theorem Rl.grow (R:Rl K B H0 O σ H ρ) (s:Same H H'):Rl K B H0 O σ H' ρ:=
 ⟨R.same.trans s,R.bo,R.bd,fun a h=>R.od a (s.free h),R.len,fun i x h=>let⟨v,h1,h2⟩:=R.slot i x h;⟨v,h1,h2.grow s⟩,R.one⟩
theorem Rl.none0 (R:Rl K B H0 O σ H ρ) {p:Addr} (h:H p=none):H0 p=none:=R.same.free h
theorem Rl.add (R:Rl K B H0 O σ H ρ) {p:Addr} (s:Same H H') (hp:H p=none) (hq:H' p≠none):Rl K B H0 (ck O p) σ H' ρ:=by
 refine⟨R.same.trans s,fun a h=> .inl (R.bo a h),R.bd,fun a h z=>z.elim (R.od a (s.free h)) fun e=>hq (by rw[←e];exact h),R.len,fun i x h=> ?_,R.one⟩
 obtain⟨v,h1,h2⟩:=R.slot i x h
 refine⟨v,h1,?_⟩
 cases x with
 |fz d=>exact DV.ev (Ev.add s hp) h2
 |ow ds=>
  obtain⟨a,vs,e,g1,g2,g3,g4⟩:=h2
  exact⟨a,vs,e,.inl g1,g2,s _ _ g3,g4.ev (Ev.add s hp)⟩
 |pl i=>exact h2
theorem Rl.notB (R:Rl K B H0 O σ H ρ) {a:Addr} (h:H0 a=none):¬B a:=fun z=>R.bd a z h
theorem Rl.sub (R:Rl K B H0 O σ H ρ) {a:Addr} (h0:H0 a=none) (h:∀(i:Nat) (es:List D),ρ[i]? =some (some (.ow es))→σ[i]?≠some (some (.ref a))):Rl K B H0 (y6 O a) σ H ρ:=by
 refine⟨R.same,fun b hb=>⟨R.bo b hb,fun e=>R.notB h0 (e▸hb)⟩,R.bd,fun b hb z=>R.od b hb z.1,R.len,fun i x hx=> ?_,R.one⟩
 obtain⟨v,h1,h2⟩:=R.slot i x hx
 refine⟨v,h1,?_⟩
 cases x with
 |fz d=>exact DV.ev (Ev.sub fun b z=>z.1) h2
 |ow ds=>
  obtain⟨b,vs,e,g1,g2,g3,g4⟩:=h2
  subst e
  exact⟨b,vs,rfl,⟨g1,fun e=>h i ds hx (by rw[h1,e])⟩,g2,g3,g4.ev (Ev.sub fun b z=>z.1)⟩
 |pl i=>exact h2
theorem rQ {a:Addr} {vs:List V} {ds:List D} (h:H a=some (.lst vs)) (n:¬O a) (hd:DVs O K H vs ds):DV O K H (.ref a) (.list ds):= .lst ⟨SqLX.of h,fun z=>absurd z n⟩ hd
theorem g9 {pv:PV} (R:Rl K B H0 O σ H ρ) (h:PvOk K H0 O σ H ρ v pv):∃O',Ev O H O' H∧Rl K B H0 O' σ H ρ∧PvOk K H0 O' σ H ρ v (dM pv):=by
 cases pv with
 |fz d=>exact⟨O,.refl,R,h⟩
 |pl i=>exact⟨O,.refl,R,h⟩
 |ow ds=>
  obtain⟨a,vs,rfl,h1,h2,h3,h4,h5⟩:=h
  exact⟨y6 O a,Ev.sub fun b z=>z.1,R.sub h2 h5,rQ h3 (fun z=>z.2 rfl) (h4.ev (Ev.sub fun b z=>z.1))⟩
theorem mZ (pv:PV):jC (dM pv):=by cases pv<;>trivial
theorem PvOk.keep {pv:PV} (hs:jC pv) (e:Ev O H O' H') (h:PvOk K H0 O σ H ρ v pv):PvOk K H0 O' σ H' ρ' v pv:=by
 cases pv with
 |fz d=>exact DV.ev e h
 |pl i=>exact h
 |ow ds=>exact hs.elim
noncomputable def HY:Option (Option PV)→Option D
 |some (some (.fz d))=>some d
 |some (some (.ow ds))=>some (.list ds)
 |_=>none
noncomputable def vh (ρ:aV):PV→Option D
 | .fz d=>some d
 | .ow ds=>some (.list ds)
 | .pl i=>HY ρ[i]?
theorem mn {pv:PV} {d:D} (R:Rl K B H0 O σ H ρ) (h:PvOk K H0 O σ H ρ v pv) (e:vh ρ pv=some d):DX O K H v d:=by
 cases pv with
 |fz d'=>cases e;exact DV.x h
 |ow ds=>
  cases e
  obtain⟨a,vs,rfl,h1,h2,h3,h4,h5⟩:=h
  exact⟨a,vs,rfl,SqLX.of h3,h4⟩
 |pl i=>
  have e':HY ρ[i]? =some d:=e
  have h':σ[i]? =some (some v):=h
  cases q:ρ[i]? with
  |none=>rw[q] at e';cases e'
  |some o=>
   cases o with
   |none=>rw[q] at e';cases e'
   |some x=>
    obtain⟨u,g1,g2⟩:=R.slot i x q
    rw[h'] at g1
    cases g1
    rw[q] at e'
    cases x with
    |fz d'=>cases e';exact DV.x g2
    |ow ds=>
     cases e'
     obtain⟨a,vs,rfl,k1,k2,k3,k4⟩:=g2
     exact⟨a,vs,rfl,SqLX.of k3,k4⟩
    |pl j=>exact g2.elim
noncomputable def HV (ρ:aV) (i:Nat):Option (Option PV)→Option (D×aV)
 |some (some (.fz d))=>some (d,ρ)
 |some (some (.ow ds))=>some (.list ds,ρ.set i (some (.fz (.list ds))))
 |_=>none
noncomputable def ui (ρ:aV):PV→Option (D×aV)
 | .fz d=>some (d,ρ)
 | .ow ds=>some (.list ds,ρ)
 | .pl i=>HV ρ i ρ[i]?
theorem cy {α:Type} {l:List α} {i j:Nat} {x y:α} (h:(l.set i x)[j]? =some y):(j=i∧y=x)∨(j≠i∧l[j]? =some y):=by
 rw[List.getElem?_set] at h
 by_cases e:i=j
 ·rw[if_pos e] at h
  split at h
  ·cases h;exact .inl ⟨e.symm,rfl⟩
  ·cases h
 ·rw[if_neg e] at h;exact .inr ⟨fun z=>e z.symm,h⟩
theorem qB {pv:PV} {d:D} (R:Rl K B H0 O σ H ρ) (h:PvOk K H0 O σ H ρ v pv) (e:ui ρ pv=some (d,ρ')):∃O',Ev O H O' H∧Rl K B H0 O' σ H ρ'∧DV O' K H v d:=by
 cases pv with
 |fz d'=>cases e;exact⟨O,.refl,R,h⟩
 |ow ds=>
  cases e
  obtain⟨a,vs,rfl,h1,h2,h3,h4,h5⟩:=h
  exact⟨y6 O a,Ev.sub fun b z=>z.1,R.sub h2 h5,rQ h3 (fun z=>z.2 rfl) (h4.ev (Ev.sub fun b z=>z.1))⟩
 |pl i=>
  have e':HV ρ i ρ[i]? =some (d,ρ'):=e
  have h':σ[i]? =some (some v):=h
  cases q:ρ[i]? with
  |none=>rw[q] at e';cases e'
  |some o=>
   cases o with
   |none=>rw[q] at e';cases e'
   |some x=>
    obtain⟨u,g1,g2⟩:=R.slot i x q
    rw[h'] at g1
    cases g1
    rw[q] at e'
    cases x with
    |fz d'=>cases e';exact⟨O,.refl,R,g2⟩
    |pl j=>exact g2.elim
    |ow ds=>
     cases e'
     obtain⟨a,vs,rfl,k1,k2,k3,k4⟩:=g2
     have es:Ev O H (y6 O a) H:=Ev.sub fun b z=>z.1
     have dv:DV (y6 O a) K H (.ref a) (.list ds):=rQ k3 (fun z=>z.2 rfl) (k4.ev es)
     refine⟨y6 O a,es,⟨R.same,fun b hb=>⟨R.bo b hb,fun e=>R.notB k2 (e▸hb)⟩,R.bd,fun b hb z=>R.od b hb z.1,by rw[List.length_set];exact R.len,fun j x hx=> ?_,fun j k xs ys w hj hk=> ?_⟩,dv⟩
     ·rcases cy hx with⟨rfl,ee⟩|⟨hne,hx⟩
      ·cases ee
       exact⟨_,h',dv⟩
      ·obtain⟨u,m1,m2⟩:=R.slot j x hx
       refine⟨u,m1,?_⟩
       cases x with
       |fz d=>exact DV.ev es m2
       |pl i=>exact m2
       |ow xs=>
        obtain⟨b,us,rfl,n1,n2,n3,n4⟩:=m2
        exact⟨b,us,rfl,⟨n1,fun z=>hne (R.one j i xs ds (.ref a) hx q (by rw[m1,z]) h')⟩,n2,n3,n4.ev es⟩
     ·rcases cy hj with⟨rfl,ee⟩|⟨_,hj⟩
      ·cases ee
      ·rcases cy hk with⟨rfl,ee⟩|⟨_,hk⟩
       ·cases ee
       ·exact R.one j k xs ys w hj hk
end
def XOk (K:PySem.W.Frag) (B:b6) (H:Hp) (c:Value) (dx:Option Addr) (x:Xc):Prop:=
 (∃a,c= .ref a∧PySem.W.nsIn K mainGlobals x.cls=some (some (.ref a)))∧∃fs,(∀p,dx=some p→H p=some (.xd fs))∧∀f d,x.fs.lookup f=some d→dx≠none∧∃v,fs.lookup f=some v∧DV B K H v d
def XE (K:PySem.W.Frag) (B:b6) (H0:Hp) (E:XK) (x:Xc):Prop:=∀c dx H',Same H0 H'→XOk K B H' c dx x→E c dx H'
def WR {α:Type} (K:PySem.W.Frag) (E:XK) (B:b6) (H0:Hp) (P:α→Prop):Res α→Prop
 | .ok a=>P a
 | .er x=>XE K B H0 E x
 | .bad=>False
section
variable {K:PySem.W.Frag} {E:XK} {B:b6} {H0:Hp}
theorem WR.bind {α β:Type} {P:β→Prop} {r:Res α} {k:α→Res β} (h:WR K E B H0 P (r.bind k)):WR K E B H0 (fun a=>WR K E B H0 P (k a)) r:=by
 cases r<;>exact h
theorem WR.ofO {α β:Type} {P:β→Prop} {o:Option α} {k:α→Res β} (h:WR K E B H0 P ((Res.ofO o).bind k)):∃a,o=some a∧WR K E B H0 P (k a):=by
 cases o with
 |none=>exact h.elim
 |some a=>exact⟨a,rfl,h⟩
theorem WR.imp {α:Type} {P P':α→Prop} {r:Res α} (h:WR K E B H0 P r) (g:∀a,P a→P' a):WR K E B H0 P' r:=by
 cases r with
 |ok a=>exact g a h
 |er x=>exact h
 |bad=>exact h
end
abbrev FE:=aV→Res (PV×aV)
abbrev FT:=aV→Res (Bool×aV)
abbrev FA:=aV→Res (List PV×aV)
def EO (K:PySem.W.Frag) (E:XK) (t:TE) (f:FE):Prop:=
 ∀(B:b6) (H0:Hp) (O:b6) (σ:St) (H:Hp) (ρ:aV) (Q:VK),Rl K B H0 O σ H ρ→WR K E B H0 (fun r=>∀O' v H',Ev O H O' H'→Rl K B H0 O' σ H' r.2→PvOk K H0 O' σ H' r.2 v r.1→Q v H') (f ρ)→t σ H Q
def TTO (K:PySem.W.Frag) (E:XK) (t:TT) (f:FT):Prop:=
 ∀(B:b6) (H0:Hp) (O:b6) (σ:St) (H:Hp) (ρ:aV) (Q:Bool→Hp→Prop),Rl K B H0 O σ H ρ→WR K E B H0 (fun r=>∀O' H',Ev O H O' H'→Rl K B H0 O' σ H' r.2→Q r.1 H') (f ρ)→t σ H Q
def AO (K:PySem.W.Frag) (E:XK) (t:TA) (f:FA):Prop:=
 ∀(B:b6) (H0:Hp) (O:b6) (σ:St) (H:Hp) (ρ:aV) (Q:List V→Hp→Prop),Rl K B H0 O σ H ρ→WR K E B H0 (fun r=>∀O' vs H',Ev O H O' H'→Rl K B H0 O' σ H' r.2→Paired (fun v pv=>PvOk K H0 O' σ H' r.2 v pv∧jC pv) vs r.1→Q vs H') (f ρ)→t σ H Q
end L3
namespace L3
open PySem L2
inductive RV where
 |fz (d:D)
 |ow (ds:List D)
noncomputable def RV.pv:RV→PV
 | .fz d=> .fz d
 | .ow ds=> .ow ds
def Fin (O:b6) (K:PySem.W.Frag) (H:Hp) (Q:VK):RV→Prop
 | .fz d=>∀v H',Same H H'→DV O K H' v d→Q v H'
 | .ow ds=>∀p vs H',Same H H'→H p=none→H' p=some (.lst vs)→DVs (ck O p) K H' vs ds→Q (.ref p) H'
def kY (O:b6) (H:Hp):Prop:=∀a,H a=none→¬O a
section
variable {K:PySem.W.Frag} {E:XK} {B O O':b6} {H0 H H':Hp} {σ:St} {ρ ρ':aV} {v:V}
theorem lD {Q:VK} {rv:RV} (R:Rl K B H0 O σ H ρ) (h:∀O' v H',Ev O H O' H'→Rl K B H0 O' σ H' ρ→PvOk K H0 O' σ H' ρ v rv.pv→Q v H'):Fin O K H Q rv:=by
 cases rv with
 |fz d=>exact fun v H' s dv=>h O v H' (Ev.grow s) (R.grow s) dv
 |ow ds=>
  intro p vs H' s hp e dv
  refine h (ck O p) (.ref p) H' (Ev.add s hp) (R.add s hp (by rw[e];simp)) ⟨p,vs,rfl,.inr rfl,R.none0 hp,e,dv,fun i es hi z=> ?_⟩
  obtain⟨u,h1,a,us,e2,g1,g2,g3,g4⟩:=R.slot i _ hi
  rw[z] at h1
  cases h1
  cases e2
  rw[hp] at g3
  cases g3
theorem Fin.new {Q:VK} {ds:List D} {vs:List V} (hd:DVs O K H vs ds) (h:Fin O K H Q (.ow ds)):∀p,H p=none→Q (.ref p) (bL H p (.lst vs)):=fun p hp=>
 h p vs _ (cb hp _) hp aO (hd.ev (Ev.add (cb hp _) hp))
theorem Fin.newT {Q:VK} {ds:List D} {vs:List V} (hd:DVs O K H vs ds) (hO:kY O H) (h:Fin O K H Q (.fz (.tuple ds))):∀p,H p=none→Q (.ref p) (bL H p (.tup vs)):=fun p hp=>
 h (.ref p) _ (cb hp _) (.tup ⟨SqT.of aO,fun z=>absurd z (hO p hp)⟩ (hd.ev (Ev.grow (cb hp _))))
theorem Fin.at {Q:VK} {d:D} (h:Fin O K H Q (.fz d)) (hv:DV O K H v d):Q v H:=h v H (Same.refl H) hv
noncomputable def wQ (ρ:aV) (i:Nat):Option (Option PV)→Res (PV×aV)
 |some (some (.fz d))=> .ok (.fz d,ρ)
 |some (some (.ow _))=> .ok (.pl i,ρ)
 |_=> .bad
noncomputable def ah (i:Nat):FE:=fun ρ=>wQ ρ i ρ[i]?
theorem af {i:Nat}:EO K E (Bv i) (ah i):=by
 intro B H0 O σ H ρ Q R w
 unfold ah at w
 cases q:ρ[i]? with
 |none=>rw[q] at w;exact w.elim
 |some o=>
  cases o with
  |none=>rw[q] at w;exact w.elim
  |some x=>
   rw[q] at w
   obtain⟨v,h1,h2⟩:=R.slot i x q
   cases x with
   |fz d=>exact⟨v,h1,w O v H .refl R h2⟩
   |ow ds=>exact⟨v,h1,w O v H .refl R h1⟩
   |pl j=>exact w.elim
noncomputable def pC (d:D):FE:=fun ρ=> .ok (.fz d,ρ)
theorem mM {v:V} {d:D} (h:∀O H,DV O K H v d):EO K E (tC v) (pC d):=fun B H0 O σ H ρ Q R w=>w O v H .refl R (h O H)
theorem az {i:Int}:EO K E (tC (.int i)) (pC (.int i)):=mM fun _ _=> .int i
theorem vf {b:Bool}:EO K E (tC (.bl b)) (pC (.bool b)):=mM fun _ _=> .bl b
theorem bX {x:Str}:EO K E (tC (.str x)) (pC (.str x)):=mM fun _ _=> .str x
theorem fC:EO K E (tC .non) (pC .none):=mM fun _ _=> .non
def pI (K:PySem.W.Frag) (r:R2) (f:D→D→Option RV):Prop:=∀(O:b6) (H:Hp) (x y:V) (dx dy:D) (rv:RV) (Q:VK),kY O H→DX O K H x dx→DX O K H y dy→f dx dy=some rv→Fin O K H Q rv→r x y H Q
noncomputable def aY (f:D→D→Option RV) (fa fb:FE):FE:=fun ρ=>(fa ρ).bind fun a=>(fb a.2).bind fun b=>(Res.ofO (vh b.2 (dM a.1))).bind fun dx=>(Res.ofO (vh b.2 b.1)).bind fun dy=>(Res.ofO (f dx dy)).bind fun rv=> .ok (rv.pv,b.2)
theorem aE {r:R2} {f:D→D→Option RV} {ta tb:TE} {fa fb:FE} (hr:pI K r f) (ha:EO K E ta fa) (hb:EO K E tb fb):EO K E (Fx r ta tb) (aY f fa fb):=by
 intro B H0 O σ H ρ Q R w
 refine ha B H0 O σ H ρ _ R (w.bind.imp fun a w1 O1 x H1 e1 R1 p1=> ?_)
 obtain⟨O2,e2,R2,p2⟩:=g9 R1 p1
 refine hb B H0 O2 σ H1 a.2 _ R2 (w1.bind.imp fun b w2 O3 y H3 e3 R3 p3=> ?_)
 have p2':=p2.keep (mZ a.1) e3 (ρ':=b.2)
 obtain⟨dx,qx,w2⟩:=w2.ofO
 obtain⟨dy,qy,w2⟩:=w2.ofO
 obtain⟨rv,qf,w2⟩:=w2.ofO
 refine hr O3 H3 x y dx dy rv Q R3.od (mn R3 p2' qx) (mn R3 p3 qy) qf (lD R3 fun O4 v H4 e4 R4 p4=> ?_)
 exact w2 O4 v H4 (e1.trans (e2.trans (e3.trans e4))) R4 p4
noncomputable def HF:D→Option Bool
 | .bool b=>some b
 |_=>none
theorem E7 {O:b6} {H:Hp} {x:V} {d:D} {b:Bool} (h:DX O K H x d) (e:HF d=some b):x= .bl b:=by
 cases d<;>cases e
 cases h
 rfl
noncomputable def aW (fa:FE):aV→Res (Bool×aV):=fun ρ=>(fa ρ).bind fun a=>(Res.ofO (vh a.2 a.1)).bind fun d=>(Res.ofO (HF d)).bind fun b=> .ok (b,a.2)
theorem bf {ta:TE} {fa:FE} (ha:EO K E ta fa):TTO K E (BF ta) (aW fa):=by
 intro B H0 O σ H ρ Q R w
 refine ha B H0 O σ H ρ _ R (w.bind.imp fun a w1 O1 x H1 e1 R1 p1=> ?_)
 obtain⟨d,qd,w1⟩:=w1.ofO
 obtain⟨b,qb,w1⟩:=w1.ofO
 exact⟨b,E7 (mn R1 p1 qd) qb,w1 O1 H1 e1 R1⟩
theorem Ao {ta:TE} {fa:FE} (ha:EO K E ta fa):TTO K E (tB ta) (aW fa):=bf ha
noncomputable def y4 (fa fb:FT):FT:=fun ρ=>(fa ρ).bind fun a=>if a.1=true then fb a.2 else .ok (false,a.2)
noncomputable def zd (fa:FT):FT:=fun ρ=>(fa ρ).bind fun a=> .ok (!a.1,a.2)
theorem TTO.next {t:TT} {f:FT} {Q:Bool→Hp→Prop} (h:TTO K E t f) {O1:b6} {H1:Hp} {ρ:aV} (R:Rl K B H0 O1 σ H1 ρ) (e1:Ev O H O1 H1) (w:WR K E B H0 (fun r=>∀O' H',Ev O H O' H'→Rl K B H0 O' σ H' r.2→Q r.1 H') (f ρ)):t σ H1 Q:=
 h B H0 O1 σ H1 ρ Q R (w.imp fun r q O' H' e' R'=>q O' H' (e1.trans e') R')
theorem EO.next {t:TE} {f:FE} {Q:VK} (h:EO K E t f) {O1:b6} {H1:Hp} {ρ:aV} (R:Rl K B H0 O1 σ H1 ρ) (e1:Ev O H O1 H1) (w:WR K E B H0 (fun r=>∀O' v H',Ev O H O' H'→Rl K B H0 O' σ H' r.2→PvOk K H0 O' σ H' r.2 v r.1→Q v H') (f ρ)):t σ H1 Q:=
 h B H0 O1 σ H1 ρ Q R (w.imp fun r q O' v H' e' R' p'=>q O' v H' (e1.trans e') R' p')
theorem xH {t u:TT} {f g:FT} (h1:TTO K E t f) (h2:TTO K E u g):TTO K E (Fk t u) (y4 f g):=by
 intro B H0 O σ H ρ Q R w
 refine h1 B H0 O σ H ρ _ R (w.bind.imp fun a w1 O1 H1 e1 R1=> ?_)
 obtain⟨b,ρ1⟩:=a
 cases b with
 |true=>exact h2.next R1 e1 w1
 |false=>exact w1 O1 H1 e1 R1
theorem wV {t:TT} {f:FT} (h1:TTO K E t f):TTO K E (Ek t) (zd f):=by
 intro B H0 O σ H ρ Q R w
 exact h1 B H0 O σ H ρ _ R (w.bind.imp fun a w1 O1 H1 e1 R1=>w1 O1 H1 e1 R1)
noncomputable def iZ:FT:=fun ρ=> .ok (true,ρ)
theorem kT:TTO K E BG iZ:=fun B H0 O σ H ρ Q R w=>w O H .refl R
noncomputable def EX (c:FT) (fa fb:FE):FE:=fun ρ=>(c ρ).bind fun a=>if a.1=true then fa a.2 else fb a.2
theorem GQ {t:TT} {c:FT} {ta tb:TE} {fa fb:FE} (hc:TTO K E t c) (ha:EO K E ta fa) (hb:EO K E tb fb):EO K E (HA t ta tb) (EX c fa fb):=by
 intro B H0 O σ H ρ Q R w
 refine hc B H0 O σ H ρ _ R (w.bind.imp fun a w1 O1 H1 e1 R1=> ?_)
 obtain⟨b,ρ1⟩:=a
 cases b with
 |true=>exact ha.next R1 e1 w1
 |false=>exact hb.next R1 e1 w1
noncomputable def aJ:FA:=fun ρ=> .ok ([],ρ)
noncomputable def ap (fa:FE) (fr:FA):FA:=fun ρ=>(fa ρ).bind fun a=>(fr a.2).bind fun b=> .ok (dM a.1::b.1,b.2)
theorem aG:AO K E pp aJ:=fun B H0 O σ H ρ Q R w=>w O [] H .refl R .nil
theorem ao {ta:TE} {tr:TA} {fa:FE} {fr:FA} (ha:EO K E ta fa) (hr:AO K E tr fr):AO K E (j5 ta tr) (ap fa fr):=by
 intro B H0 O σ H ρ Q R w
 refine ha B H0 O σ H ρ _ R (w.bind.imp fun a w1 O1 x H1 e1 R1 p1=> ?_)
 obtain⟨O2,e2,R2,p2⟩:=g9 R1 p1
 refine hr B H0 O2 σ H1 a.2 _ R2 (w1.bind.imp fun b w2 O3 ys H3 e3 R3 p3=> ?_)
 exact w2 O3 (x::ys) H3 (e1.trans (e2.trans e3)) R3 (.cons ⟨p2.keep (mZ a.1) e3,mZ a.1⟩ p3)
noncomputable def uF (ρ:aV):List PV→Option (List D)
 |[]=>some []
 |p::r=>match vh ρ p with
  |some d=>(match uF ρ r with
   |some ds=>some (d::ds)
   |none=>none)
  |none=>none
theorem vN (R:Rl K B H0 O σ H ρ):∀{vs:List V} {ps:List PV} {ds:List D},Paired (fun v pv=>PvOk K H0 O σ H ρ v pv∧jC pv) vs ps→uF ρ ps=some ds→Paired (DX O K H) vs ds
 |_,_,_,.nil,e=>by cases e;exact .nil
 |_,_,_,.cons (l₁:=vs) (l₂:=ps) (b:=p) h t,e=>by
  unfold uF at e
  cases q:vh ρ p with
  |none=>rw[q] at e;cases e
  |some d=>
   rw[q] at e
   dsimp only at e
   cases q2:uF ρ ps with
   |none=>rw[q2] at e;cases e
   |some ds'=>
    rw[q2] at e
    cases e
    exact .cons (mn R h.1 q) (vN R t q2)
noncomputable def mV (ρ:aV):List PV→Option (List D×aV)
 |[]=>some ([],ρ)
 |p::r=>match ui ρ p with
  |some (d,ρ1)=>(match mV ρ1 r with
   |some (ds,ρ2)=>some (d::ds,ρ2)
   |none=>none)
  |none=>none
theorem nG:∀{vs:List V} {ps:List PV} {ds:List D} {O:b6} {ρ ρ':aV},Rl K B H0 O σ H ρ→Paired (fun v pv=>PvOk K H0 O σ H ρ v pv∧jC pv) vs ps→mV ρ ps=some (ds,ρ')→∃O',Ev O H O' H∧Rl K B H0 O' σ H ρ'∧DVs O' K H vs ds
 |_,_,_,O,_,_,R,.nil,e=>by cases e;exact⟨O,.refl,R,.nil⟩
 |_,_,_,O,ρ,ρ',R,.cons (l₁:=vs) (l₂:=ps) (b:=p) h t,e=>by
  unfold mV at e
  cases q:ui ρ p with
  |none=>rw[q] at e;cases e
  |some r=>
   obtain⟨d,ρ1⟩:=r
   rw[q] at e
   dsimp only at e
   cases q2:mV ρ1 ps with
   |none=>rw[q2] at e;cases e
   |some r2=>
    obtain⟨ds',ρ2⟩:=r2
    rw[q2] at e
    cases e
    obtain⟨O1,e1,R1,d1⟩:=qB R h.1 q
    have t1:Paired (fun v pv=>PvOk K H0 O1 σ H ρ1 v pv∧jC pv) vs ps:=Paired.mapP t fun v pv ⟨h1,h2⟩=>⟨h1.keep h2 e1,h2⟩
    obtain⟨O2,e2,R2,d2⟩:=nG R1 t1 q2
    exact⟨O2,e1.trans e2,R2,.cons (d1.ev e2) d2⟩
abbrev FN:=List D→Res RV
noncomputable def qu (K:PySem.W.Frag) (n:Nat) (F:FN):Sp:=fun vs H Q E=>vs.length=n∧∃(B:b6) (ds:List D),(∀a,B a→H a≠none)∧DVs B K H vs ds∧WR K E B H (Fin B K H Q) (F ds)
noncomputable def c8 (fa:FA):FE:=fun ρ=>(fa ρ).bind fun a=>(Res.ofO (mV a.2 a.1)).bind fun b=>if b.1.length≤1000 then .ok (.fz (.tuple b.1),b.2) else .bad
noncomputable def dG (fa:FA):FE:=fun ρ=>(fa ρ).bind fun a=>(Res.ofO (mV a.2 a.1)).bind fun b=>if b.1.length≤1000 then .ok (.ow b.1,b.2) else .bad
theorem vk {n:Nat} (h:n≤1000):n≤sizeLine:=Nat.le_trans h (by decide)
theorem cL {ta:TA} {fa:FA} (ha:AO K E ta fa):EO K E (Fm ta) (c8 fa):=by
 intro B H0 O σ H ρ Q R w
 refine ha B H0 O σ H ρ _ R (w.bind.imp fun a w1 O1 vs H1 e1 R1 p1=> ?_)
 obtain⟨⟨ds,ρ2⟩,q,w2⟩:=w1.ofO
 obtain⟨O2,e2,R2,dv⟩:=nG R1 p1 q
 dsimp only at w2
 by_cases hn:ds.length≤1000
 ·rw[if_pos hn] at w2
  refine⟨by rw[dv.length];exact vk hn,Fin.newT dv R2.od (lD (rv:= .fz (.tuple ds)) R2 fun O3 v H3 e3 R3 p3=>w2 O3 v H3 (e1.trans (e2.trans e3)) R3 p3)⟩
 ·rw[if_neg hn] at w2
  exact w2.elim
theorem ei {ta:TA} {fa:FA} (ha:AO K E ta fa):EO K E (Ga ta) (dG fa):=by
 intro B H0 O σ H ρ Q R w
 refine ha B H0 O σ H ρ _ R (w.bind.imp fun a w1 O1 vs H1 e1 R1 p1=> ?_)
 obtain⟨⟨ds,ρ2⟩,q,w2⟩:=w1.ofO
 obtain⟨O2,e2,R2,dv⟩:=nG R1 p1 q
 dsimp only at w2
 by_cases hn:ds.length≤1000
 ·rw[if_pos hn] at w2
  refine⟨by rw[dv.length];exact vk hn,Fin.new dv (lD (rv:= .ow ds) R2 fun O3 v H3 e3 R3 p3=>w2 O3 v H3 (e1.trans (e2.trans e3)) R3 p3)⟩
 ·rw[if_neg hn] at w2
  exact w2.elim
def BO (K:PySem.W.Frag) (r:List V→Hp→VK→Prop) (f:List D→Option RV):Prop:=∀(O:b6) (H:Hp) (xs:List V) (ds:List D) (rv:RV) (Q:VK),kY O H→Paired (DX O K H) xs ds→f ds=some rv→Fin O K H Q rv→r xs H Q
noncomputable def iU (f:List D→Option RV) (fa:FA):FE:=fun ρ=>(fa ρ).bind fun a=>(Res.ofO (uF a.2 a.1)).bind fun ds=>(Res.ofO (f ds)).bind fun rv=> .ok (rv.pv,a.2)
theorem iO {r:List V→Hp→VK→Prop} {f:List D→Option RV} {ta:TA} {fa:FA} (hr:BO K r f) (ha:AO K E ta fa):EO K E (CG r ta) (iU f fa):=by
 intro B H0 O σ H ρ Q R w
 refine ha B H0 O σ H ρ _ R (w.bind.imp fun a w1 O1 vs H1 e1 R1 p1=> ?_)
 obtain⟨ds,q,w2⟩:=w1.ofO
 obtain⟨rv,qf,w2⟩:=w2.ofO
 exact hr O1 H1 vs ds rv Q R1.od (vN R1 p1 q) qf (lD R1 fun O4 v H4 e4 R4 p4=>w2 O4 v H4 (e1.trans e4) R4 p4)
noncomputable def HB:D→Option Int
 | .int i=>some i
 |_=>none
theorem Ei {O:b6} {H:Hp} {x:V} {d:D} {i:Int} (h:DX O K H x d) (e:HB d=some i):x= .int i:=by
 cases d<;>cases e
 cases h
 rfl
abbrev FO:=aV→Res (Option Int×aV)
def Hv (K:PySem.W.Frag) (E:XK) (t:TO) (f:FO):Prop:=
 ∀(B:b6) (H0:Hp) (O:b6) (σ:St) (H:Hp) (ρ:aV) (Q:Option Int→Hp→Prop),Rl K B H0 O σ H ρ→WR K E B H0 (fun r=>∀O' H',Ev O H O' H'→Rl K B H0 O' σ H' r.2→Q r.1 H') (f ρ)→t σ H Q
noncomputable def qL (fa:FE):FO:=fun ρ=>(fa ρ).bind fun a=>(Res.ofO (vh a.2 a.1)).bind fun d=>(Res.ofO (HB d)).bind fun i=> .ok (some i,a.2)
theorem uT {ta:TE} {fa:FE} (ha:EO K E ta fa):Hv K E (DJ ta) (qL fa):=by
 intro B H0 O σ H ρ Q R w
 refine ha B H0 O σ H ρ _ R (w.bind.imp fun a w1 O1 x H1 e1 R1 p1=> ?_)
 obtain⟨d,q,w2⟩:=w1.ofO
 obtain⟨i,qi,w2⟩:=w2.ofO
 exact⟨i,Ei (mn R1 p1 q) qi,w2 O1 H1 e1 R1⟩
def Il (K:PySem.W.Frag) (r:V→Option Int→Option Int→Hp→VK→Prop) (f:D→Option Int→Option Int→Option RV):Prop:=∀(O:b6) (H:Hp) (x:V) (lo hi:Option Int) (dx:D) (rv:RV) (Q:VK),kY O H→DX O K H x dx→f dx lo hi=some rv→Fin O K H Q rv→r x lo hi H Q
noncomputable def GN (f:D→Option Int→Option Int→Option RV) (fa:FE) (fl fh:FO):FE:=fun ρ=>(fa ρ).bind fun a=>(fl a.2).bind fun l=>(fh l.2).bind fun h=>(Res.ofO (vh h.2 (dM a.1))).bind fun dx=>(Res.ofO (f dx l.1 h.1)).bind fun rv=> .ok (rv.pv,h.2)
theorem GH {r:V→Option Int→Option Int→Hp→VK→Prop} {f:D→Option Int→Option Int→Option RV} {ta:TE} {tl th:TO} {fa:FE} {fl fh:FO} (hr:Il K r f) (ha:EO K E ta fa) (hl:Hv K E tl fl) (hh:Hv K E th fh):EO K E (Ij r ta tl th) (GN f fa fl fh):=by
 intro B H0 O σ H ρ Q R w
 refine ha B H0 O σ H ρ _ R (w.bind.imp fun a w1 O1 x H1 e1 R1 p1=> ?_)
 obtain⟨O2,e2,R2,p2⟩:=g9 R1 p1
 refine hl B H0 O2 σ H1 a.2 _ R2 (w1.bind.imp fun l w2 O3 H3 e3 R3=> ?_)
 refine hh B H0 O3 σ H3 l.2 _ R3 (w2.bind.imp fun h w3 O4 H4 e4 R4=> ?_)
 obtain⟨dx,qx,w3⟩:=w3.ofO
 obtain⟨rv,qf,w3⟩:=w3.ofO
 exact hr O4 H4 x l.1 h.1 dx rv Q R4.od (mn R4 (p2.keep (mZ a.1) (e3.trans e4)) qx) qf (lD R4 fun O5 v H5 e5 R5 p5=>w3 O5 v H5 (e1.trans (e2.trans (e3.trans (e4.trans e5)))) R5 p5)
end
end L3
namespace L3
open PySem L2
theorem sR {α:Type} {l:List α} {i:Nat} {x y:α} (h:(l.set i x)[i]? =some y):i<l.length:=by
 rw[List.getElem?_set] at h
 rw[if_pos rfl] at h
 split at h
 ·assumption
 ·cases h
section
variable {K:PySem.W.Frag} {E:XK} {B O O':b6} {H0 H H':Hp} {σ:St} {ρ ρ':aV} {v:V}
theorem Rl.mut {i:Nat} {ds ds':List D} {a:Addr} {vs':List V} (R:Rl K B H0 O σ H ρ) (hi:ρ[i]? =some (some (.ow ds))) (hv:σ[i]? =some (some (.ref a))) (hO:O a) (h0:H0 a=none) (hd:DVs O K H vs' ds'):
  Rl K B H0 O σ (bL H a (.lst vs')) (ρ.set i (some (.ow ds'))):=by
 have ev:Ev O H O (bL H a (.lst vs')):=Ev.mut hO _
 refine⟨fun b o e=>by rw[aX (cj e h0)];exact R.same b o e,R.bo,R.bd,fun b hb=> ?_,by rw[List.length_set];exact R.len,fun j x hx=> ?_,fun j k xs ys w hj hk hj2 hk2=> ?_⟩
 ·by_cases e:b=a
  ·rw[e,aO] at hb;cases hb
  ·rw[aX e] at hb;exact R.od b hb
 ·rcases cy hx with⟨rfl,ee⟩|⟨hne,hx⟩
  ·cases ee
   exact⟨_,hv,a,vs',rfl,hO,h0,aO,hd.ev ev⟩
  ·obtain⟨u,m1,m2⟩:=R.slot j x hx
   refine⟨u,m1,?_⟩
   cases x with
   |fz d=>exact DV.ev ev m2
   |pl i=>exact m2
   |ow xs=>
    obtain⟨b,us,rfl,n1,n2,n3,n4⟩:=m2
    have hba:b≠a:=fun z=>hne (R.one j i xs ds (.ref a) hx hi (by rw[m1,z]) hv)
    exact⟨b,us,rfl,n1,n2,by rw[aX hba];exact n3,n4.ev ev⟩
 ·have own:∀{j:Nat} {xs:List D},(ρ.set i (some (.ow ds')))[j]? =some (some (.ow xs))→∃ys,ρ[j]? =some (some (.ow ys)):=fun{j xs} h=>by
   rcases cy h with⟨rfl,_⟩|⟨_,h⟩
   ·exact⟨_,hi⟩
   ·exact⟨_,h⟩
  obtain⟨xs',hj'⟩:=own hj
  obtain⟨ys',hk'⟩:=own hk
  exact R.one j k xs' ys' w hj' hk' hj2 hk2
theorem qE {n:Nat} (h:n<1000000):n<sizeLine:=Nat.lt_of_lt_of_le h (by decide)
noncomputable def Bo:Option (Option PV)→Option (List D)
 |some (some (.ow ds))=>some ds
 |_=>none
theorem xA {o:Option (Option PV)} {ds:List D} (h:Bo o=some ds):o=some (some (.ow ds)):=by
 unfold Bo at h
 split at h
 ·cases h;rfl
 ·cases h
noncomputable def yM (i:Nat) (fe:FE):FE:=fun ρ=>(Res.ofO (Bo ρ[i]?)).bind fun _=>(fe ρ).bind fun a=>(Res.ofO (ui a.2 a.1)).bind fun b=>(Res.ofO (Bo b.2[i]?)).bind fun ds=>
 if ds.length<1000000 then .ok (.fz .none,b.2.set i (some (.ow (ds++[b.1])))) else .bad
theorem Ag {i:Nat} {te:TE} {fe:FE} (he:EO K E te fe):EO K E (HC K "list" tq (Bv i) (j5 te pp)) (yM i fe):=by
 intro B H0 O σ H ρ Q R w
 obtain⟨ds0,q0,w⟩:=w.ofO
 obtain⟨v,g1,a,vs,rfl,g2,g3,g4,g5⟩:=R.slot i _ (xA q0)
 refine⟨_,g1,.inl ⟨rfl,_,SqL.of g4⟩,?_⟩
 refine he B H0 O σ H ρ _ R (w.bind.imp fun b w1 O1 y H1 e1 R1 p1=> ?_)
 obtain⟨⟨d,ρ2⟩,qd,w1⟩:=w1.ofO
 obtain⟨O2,e2,R2,dv⟩:=qB R1 p1 qd
 obtain⟨ds,qo,w1⟩:=w1.ofO
 have qo:=xA qo
 obtain⟨v',k1,a',vs',e',k2,k3,k4,k5⟩:=R2.slot i _ qo
 subst e'
 rw[g1] at k1
 cases k1
 dsimp only at w1
 by_cases hl:ds.length<1000000
 ·rw[if_pos hl] at w1
  refine⟨a,vs',y,rfl,rfl,k4,qE (by rw[k5.length];exact hl),?_⟩
  exact w1 O2 .non _ (e1.trans (e2.trans (Ev.mut k2 _))) (R2.mut qo g1 k2 k3 (k5.append (.cons dv .nil))) .non
 ·rw[if_neg hl] at w1
  exact w1.elim
abbrev FG:=PV→aV→Res aV
abbrev Fw:=List D→aV→Res aV
def GO (K:PySem.W.Frag) (E:XK) (g:TG) (f:FG):Prop:=
 ∀(B:b6) (H0:Hp) (O:b6) (σ:St) (H:Hp) (ρ:aV) (v:V) (pv:PV) (Q:St→Hp→Prop),Rl K B H0 O σ H ρ→PvOk K H0 O σ H ρ v pv→WR K E B H0 (fun ρ'=>∀O' σ' H',Ev O H O' H'→Rl K B H0 O' σ' H' ρ'→Q σ' H') (f pv ρ)→g v σ H Q
def Hi (K:PySem.W.Frag) (E:XK) (g:yJ) (f:Fw):Prop:=
 ∀(B:b6) (H0:Hp) (O:b6) (σ:St) (H:Hp) (ρ:aV) (vs:List V) (ds:List D) (Q:St→Hp→Prop),Rl K B H0 O σ H ρ→DVs O K H vs ds→WR K E B H0 (fun ρ'=>∀O' σ' H',Ev O H O' H'→Rl K B H0 O' σ' H' ρ'→Q σ' H') (f ds ρ)→g vs σ H Q
theorem Rl.setF {i:Nat} {d:D} (R:Rl K B H0 O σ H ρ) (h:DV O K H v d):Rl K B H0 O (σ.set i (some v)) H (ρ.set i (some (.fz d))):=by
 refine⟨R.same,R.bo,R.bd,R.od,by rw[List.length_set,List.length_set];exact R.len,fun j x hx=> ?_,fun j k xs ys w hj hk hj2 hk2=> ?_⟩
 ·rcases cy hx with⟨rfl,e⟩|⟨hne,hx⟩
  ·cases e
   have:=sR hx
   exact⟨v,by rw[List.getElem?_set,if_pos rfl,if_pos (by rw[R.len];exact this)],h⟩
  ·obtain⟨u,m1,m2⟩:=R.slot j x hx
   exact⟨u,by rw[List.getElem?_set,if_neg (fun z=>hne z.symm)];exact m1,m2⟩
 ·rcases cy hj with⟨rfl,ee⟩|⟨n1,hj⟩
  ·cases ee
  ·rcases cy hk with⟨rfl,ee⟩|⟨n2,hk⟩
   ·cases ee
   ·rw[List.getElem?_set,if_neg (fun z=>n1 z.symm)] at hj2
    rw[List.getElem?_set,if_neg (fun z=>n2 z.symm)] at hk2
    exact R.one j k xs ys w hj hk hj2 hk2
theorem Rl.setO {i:Nat} {ds:List D} (R:Rl K B H0 O σ H ρ) (h:PvOk K H0 O σ H ρ v (.ow ds)):Rl K B H0 O (σ.set i (some v)) H (ρ.set i (some (.ow ds))):=by
 obtain⟨a,vs,rfl,h1,h2,h3,h4,h5⟩:=h
 refine⟨R.same,R.bo,R.bd,R.od,by rw[List.length_set,List.length_set];exact R.len,fun j x hx=> ?_,fun j k xs ys w hj hk hj2 hk2=> ?_⟩
 ·rcases cy hx with⟨rfl,e⟩|⟨hne,hx⟩
  ·cases e
   have:=sR hx
   exact⟨.ref a,by rw[List.getElem?_set,if_pos rfl,if_pos (by rw[R.len];exact this)],a,vs,rfl,h1,h2,h3,h4⟩
  ·obtain⟨u,m1,m2⟩:=R.slot j x hx
   exact⟨u,by rw[List.getElem?_set,if_neg (fun z=>hne z.symm)];exact m1,m2⟩
 ·rcases cy hj with⟨rfl,ee⟩|⟨n1,hjj⟩
  ·rcases cy hk with⟨rfl,ee2⟩|⟨n2,hk⟩
   ·rfl
   ·rw[List.getElem?_set,if_neg (fun z=>n2 z.symm)] at hk2
    rcases cy hj2 with⟨_,e⟩|⟨z,_⟩
    ·cases e;exact absurd hk2 (h5 k ys hk)
    ·exact absurd rfl z
  ·have hj':=hjj
   rw[List.getElem?_set,if_neg (fun z=>n1 z.symm)] at hj2
   rcases cy hk with⟨rfl,ee⟩|⟨n2,hk⟩
   ·rcases cy hk2 with⟨_,e⟩|⟨z,_⟩
    ·cases e;exact absurd hj2 (h5 j xs hjj)
    ·exact absurd rfl z
   ·rw[List.getElem?_set,if_neg (fun z=>n2 z.symm)] at hk2
    exact R.one j k xs ys w hjj hk hj2 hk2
noncomputable def gN (i:Nat):FG:=fun pv ρ=>match pv with
 | .ow ds=> .ok (ρ.set i (some (.ow ds)))
 | .fz d=> .ok (ρ.set i (some (.fz d)))
 | .pl j=>(Res.ofO (ui ρ (.pl j))).bind fun b=> .ok (b.2.set i (some (.fz b.1)))
theorem cM {i:Nat}:GO K E (tX i) (gN i):=by
 intro B H0 O σ H ρ v pv Q R p w
 cases pv with
 |ow ds=>exact w O _ H .refl (R.setO p)
 |fz d=>exact w O _ H .refl (R.setF p)
 |pl j=>
  obtain⟨⟨d,ρ2⟩,q,w⟩:=WR.ofO (show WR K E B H0 _ ((Res.ofO (ui ρ (.pl j))).bind fun b=> .ok (b.2.set i (some (.fz b.1)))) from w)
  obtain⟨O2,e2,R2,dv⟩:=qB R p q
  exact w O2 _ H e2 (R2.setF dv)
noncomputable def Hj:Fw:=fun ds ρ=>match ds with
 |[]=> .ok ρ
 |_=> .bad
noncomputable def F8 (f:FG) (g:Fw):Fw:=fun ds ρ=>match ds with
 |[]=> .bad
 |d::r=>(f (.fz d) ρ).bind fun ρ1=>g r ρ1
theorem E8:Hi K E El Hj:=by
 intro B H0 O σ H ρ vs ds Q R dv w
 cases dv with
 |nil=>exact⟨rfl,w O σ H .refl R⟩
 |cons _ _=>exact w.elim
theorem wL {t:TG} {u:yJ} {f:FG} {g:Fw} (h1:GO K E t f) (h2:Hi K E u g):Hi K E (AF t u) (F8 f g):=by
 intro B H0 O σ H ρ vs ds Q R dv w
 cases dv with
 |nil=>exact w.elim
 |cons hd tl=>
  rename_i v vs d ds
  refine⟨_,_,rfl,h1 B H0 O σ H ρ _ (.fz d) _ R hd (WR.imp (WR.bind w) fun ρ1 w1 O1 σ1 H1 e1 R1=> ?_)⟩
  exact h2 B H0 O1 σ1 H1 ρ1 _ _ Q R1 (tl.ev e1) (w1.imp fun ρ2 q O2 σ2 H2 e2 R2=>q O2 σ2 H2 (e1.trans e2) R2)
noncomputable def Ie:D→Option (List D)
 | .tuple ds=>some ds
 |_=>none
theorem zJ {O:b6} {H:Hp} {x:V} {d:D} {ds:List D} (h:DX O K H x d) (e:Ie d=some ds):∃a xs,x= .ref a∧SqTO O K H a xs∧DVs O K H xs ds:=by
 cases d<;>cases e
 cases h with
 |tup h hs=>exact⟨_,_,rfl,h,hs⟩
noncomputable def gT (n:Nat) (f:Fw):FG:=fun pv ρ=>(Res.ofO (vh ρ pv)).bind fun d=>(Res.ofO (Ie d)).bind fun ds=>if ds.length=n then f ds ρ else .bad
theorem Fz {n:Nat} {t:yJ} {f:Fw} (h:Hi K E t f):GO K E (Fq K n t) (gT n f):=by
 intro B H0 O σ H ρ v pv Q R p w
 obtain⟨d,qd,w⟩:=w.ofO
 obtain⟨ds,qs,w⟩:=w.ofO
 obtain⟨a,xs,rfl,hq,hx⟩:=zJ (mn R p qd) qs
 by_cases hn:ds.length=n
 ·rw[if_pos hn] at w
  exact⟨a,xs,rfl,hq.1,hx.length.trans hn,h B H0 O σ H ρ xs ds Q R hx w⟩
 ·rw[if_neg hn] at w
  exact w.elim
inductive Fl where
 |nx (ρ:aV)
 |rt (rv:RV)
 |bk (ρ:aV)
 |ct (ρ:aV)
abbrev FS:=aV→Res Fl
def FlOk (K:PySem.W.Frag) (B:b6) (H0:Hp) (O:b6) (H:Hp) (D:Ends):Fl→Prop
 | .nx ρ'=>∀O' σ' H',Ev O H O' H'→Rl K B H0 O' σ' H' ρ'→D.nx σ' H'
 | .bk ρ'=>∀O' σ' H',Ev O H O' H'→Rl K B H0 O' σ' H' ρ'→D.bk σ' H'
 | .ct ρ'=>∀O' σ' H',Ev O H O' H'→Rl K B H0 O' σ' H' ρ'→D.ct σ' H'
 | .rt rv=>Fin B K H0 D.rt rv
def SO (K:PySem.W.Frag) (E:XK) (t:TS) (g:FS):Prop:=
 ∀(B:b6) (H0:Hp) (O:b6) (σ:St) (H:Hp) (ρ:aV) (D:Ends),Rl K B H0 O σ H ρ→WR K E B H0 (FlOk K B H0 O H D) (g ρ)→t D σ H
theorem FlOk.ev {D:Ends} {fl:Fl} {O1:b6} {H1:Hp} (e:Ev O H O1 H1) (h:FlOk K B H0 O H D fl):FlOk K B H0 O1 H1 D fl:=by
 cases fl with
 |nx ρ'=>exact fun O' σ' H' e' R'=>h O' σ' H' (e.trans e') R'
 |bk ρ'=>exact fun O' σ' H' e' R'=>h O' σ' H' (e.trans e') R'
 |ct ρ'=>exact fun O' σ' H' e' R'=>h O' σ' H' (e.trans e') R'
 |rt rv=>exact h
noncomputable def hZ:FS:=fun ρ=> .ok (.nx ρ)
noncomputable def dZ (f g:FS):FS:=fun ρ=>(f ρ).bind fun fl=>match fl with
 | .nx ρ1=>g ρ1
 |fl=> .ok fl
noncomputable def pF (f:FE):FS:=fun ρ=>(f ρ).bind fun a=> .ok (.nx a.2)
noncomputable def jU (f:FE) (g:FG):FS:=fun ρ=>(f ρ).bind fun a=>(g a.1 a.2).bind fun ρ1=> .ok (.nx ρ1)
noncomputable def pO (c:FT) (f g:FS):FS:=fun ρ=>(c ρ).bind fun a=>if a.1=true then f a.2 else g a.2
noncomputable def yT (ρ:aV):PV→Option RV
 | .fz d=>some (.fz d)
 | .ow ds=>some (.ow ds)
 | .pl i=>match ρ[i]? with
  |some (some (.fz d))=>some (.fz d)
  |some (some (.ow ds))=>some (.ow ds)
  |_=>none
noncomputable def fX (f:FE):FS:=fun ρ=>(f ρ).bind fun a=>(Res.ofO (yT a.2 a.1)).bind fun rv=> .ok (.rt rv)
theorem jw:SO K E BB hZ:=fun B H0 O σ H ρ D R w=>w O σ H .refl R
theorem d6 {t u:TS} {f g:FS} (h1:SO K E t f) (h2:SO K E u g):SO K E (Et t u) (dZ f g):=by
 intro B H0 O σ H ρ D R w
 refine h1 B H0 O σ H ρ {D with nx:=u D} R (WR.imp (WR.bind w) fun fl w1=> ?_)
 cases fl with
 |nx ρ1=>exact fun O1 σ1 H1 e1 R1=>h2 B H0 O1 σ1 H1 ρ1 D R1 (WR.imp w1 fun fl q=>q.ev e1)
 |rt rv=>exact w1
 |bk ρ1=>exact w1
 |ct ρ1=>exact w1
theorem xP {t:TE} {f:FE} (h:EO K E t f):SO K E (Ai t) (pF f):=by
 intro B H0 O σ H ρ D R w
 exact h B H0 O σ H ρ _ R (w.bind.imp fun a w1 O1 x H1 e1 R1 p1=>w1 O1 σ H1 e1 R1)
theorem gR {t:TE} {f:FE} {g:TG} {fg:FG} (h:EO K E t f) (hg:GO K E g fg):SO K E (AU t g) (jU f fg):=by
 intro B H0 O σ H ρ D R w
 refine h B H0 O σ H ρ _ R (w.bind.imp fun a w1 O1 x H1 e1 R1 p1=> ?_)
 exact hg B H0 O1 σ H1 a.2 x a.1 _ R1 p1 (w1.bind.imp fun ρ1 w2 O2 σ2 H2 e2 R2=>w2 O2 σ2 H2 (e1.trans e2) R2)
theorem qH {c:TT} {fc:FT} {t u:TS} {f g:FS} (hc:TTO K E c fc) (h1:SO K E t f) (h2:SO K E u g):SO K E (FK c t u) (pO fc f g):=by
 intro B H0 O σ H ρ D R w
 refine hc B H0 O σ H ρ _ R (w.bind.imp fun a w1 O1 H1 e1 R1=> ?_)
 obtain⟨b,ρ1⟩:=a
 cases b with
 |true=>exact h1 B H0 O1 σ H1 ρ1 D R1 (WR.imp w1 fun fl q=>q.ev e1)
 |false=>exact h2 B H0 O1 σ H1 ρ1 D R1 (WR.imp w1 fun fl q=>q.ev e1)
theorem E1 {Q:VK} {pv:PV} {rv:RV} (R:Rl K B H0 O σ H ρ) (p:PvOk K H0 O σ H ρ v pv) (e:yT ρ pv=some rv) (w:Fin B K H0 Q rv):Q v H:=by
 have ow:∀{a:Addr} {vs:List V} {ds:List D},O a→H0 a=none→H a=some (.lst vs)→DVs O K H vs ds→Fin B K H0 Q (.ow ds)→Q (.ref a) H:=fun{a vs ds} h1 h2 h3 h4 w=>
  w a vs H R.same h2 h3 (h4.ev (Ev.sub fun b z=>z.elim (R.bo b) fun e=>by rw[e];exact h1))
 have fz:∀{d:D},DV O K H v d→Fin B K H0 Q (.fz d)→Q v H:=fun{d} h w=>w v H R.same (h.ev (Ev.sub R.bo))
 cases pv with
 |fz d=>cases e;exact fz p w
 |ow ds=>
  cases e
  obtain⟨a,vs,rfl,h1,h2,h3,h4,h5⟩:=p
  exact ow h1 h2 h3 h4 w
 |pl i=>
  have p':σ[i]? =some (some v):=p
  unfold yT at e
  dsimp only at e
  cases q:ρ[i]? with
  |none=>rw[q] at e;cases e
  |some o=>
   cases o with
   |none=>rw[q] at e;cases e
   |some x=>
    obtain⟨u,g1,g2⟩:=R.slot i x q
    rw[p'] at g1
    cases g1
    rw[q] at e
    cases x with
    |fz d=>cases e;exact fz g2 w
    |ow ds=>
     cases e
     obtain⟨a,vs,rfl,h1,h2,h3,h4⟩:=g2
     exact ow h1 h2 h3 h4 w
    |pl j=>exact g2.elim
theorem eN {t:TE} {f:FE} (h:EO K E t f):SO K E (EI t) (fX f):=by
 intro B H0 O σ H ρ D R w
 refine h B H0 O σ H ρ _ R (w.bind.imp fun a w1 O1 x H1 e1 R1 p1=> ?_)
 obtain⟨rv,q,w1⟩:=w1.ofO
 exact E1 R1 p1 q w1
def u0 (K:PySem.W.Frag) (J:It) (O:b6) (H:Hp) (ds:List D):Prop:=∀O' H',Ev O H O' H'→kY O' H'→
 (∀i,i<ds.length→J.go i H'∧∀x H'',J.yld i H' x H''→Same H' H''∧∃d,ds[i]? =some d∧DV O' K H'' x d)∧J.stop ds.length H'
abbrev FI:=aV→Res (List D×aV)
def IO (K:PySem.W.Frag) (E:XK) (wi:TI) (fi:FI):Prop:=
 ∀(B:b6) (H0:Hp) (O:b6) (σ:St) (H:Hp) (ρ:aV) (R':It→Hp→Prop),Rl K B H0 O σ H ρ→WR K E B H0 (fun r=>∀O' J H',Ev O H O' H'→Rl K B H0 O' σ H' r.2→u0 K J O' H' r.1→R' J H') (fi ρ)→wi σ H R'
noncomputable def mP (gt:FG) (b:FS):List D→FS
 |[],ρ=> .ok (.nx ρ)
 |d::r,ρ=>(gt (.fz d) ρ).bind fun ρ1=>(b ρ1).bind fun fl=>match fl with
  | .nx ρ2=>mP gt b r ρ2
  | .ct ρ2=>mP gt b r ρ2
  | .bk ρ2=> .ok (.nx ρ2)
  | .rt rv=> .ok (.rt rv)
noncomputable def sd (fi:FI) (gt:FG) (b:FS):FS:=fun ρ=>(fi ρ).bind fun a=>mP gt b a.1 a.2
theorem vD {wi:TI} {fi:FI} {g:TG} {gt:FG} {tb:TS} {b:FS} (hi:IO K E wi fi) (hg:GO K E g gt) (hb:SO K E tb b):SO K E (FJ wi g tb) (sd fi gt b):=by
 intro B H0 O σ H ρ D R w
 refine hi B H0 O σ H ρ _ R (w.bind.imp fun a w1 O1 J H1 e1 R1 it=> ?_)
 obtain⟨ds,ρ1⟩:=a
 dsimp only at w1 it R1
 refine⟨fun i m σ' H'=>m=ds.length - i∧i≤ds.length∧∃O2 ρ2,Ev O1 H1 O2 H'∧Rl K B H0 O2 σ' H' ρ2∧WR K E B H0 (FlOk K B H0 O H D) (mP gt b (ds.drop i) ρ2),⟨_,rfl,Nat.zero_le _,O1,ρ1,.refl,R1,w1⟩,?_⟩
 rintro i m σ2 H2 ⟨rfl,hi,O2,ρ2,e2,R2,w2⟩
 obtain⟨go,stop⟩:=it O2 H2 e2 R2.od
 by_cases hlt:i<ds.length
 ·obtain⟨g1,g2⟩:=go i hlt
  refine .inr ⟨g1,fun σ' H'=>i+1≤ds.length∧∃O2 ρ2,Ev O1 H1 O2 H'∧Rl K B H0 O2 σ' H' ρ2∧WR K E B H0 (FlOk K B H0 O H D) (mP gt b (ds.drop (i+1)) ρ2),fun σ' H' ⟨h1,h2⟩=>⟨ds.length - (i+1),by omega,rfl,h1,h2⟩,fun x H3 y=> ?_⟩
  obtain⟨s3,d,hd,dv⟩:=g2 x H3 y
  have ed:ds.drop i=d::ds.drop (i+1):=by
   obtain⟨_,q⟩:=List.getElem?_eq_some_iff.mp hd
   rw[List.drop_eq_getElem_cons hlt,q]
  rw[ed] at w2
  have e3:Ev O2 H2 O2 H3:=Ev.grow s3
  refine hg B H0 O2 σ2 H3 ρ2 x (.fz d) _ (R2.grow s3) dv (WR.imp (WR.bind w2) fun ρ3 w3 O4 σ4 H4 e4 R4=> ?_)
  have e4':Ev O1 H1 O4 H4:=e2.trans (e3.trans e4)
  refine hb B H0 O4 σ4 H4 ρ3 _ R4 (WR.imp (WR.bind w3) fun fl w4=> ?_)
  cases fl with
  |nx ρ5=>exact fun O5 σ5 H5 e5 R5=>⟨hlt,O5,ρ5,e4'.trans e5,R5,w4⟩
  |ct ρ5=>exact fun O5 σ5 H5 e5 R5=>⟨hlt,O5,ρ5,e4'.trans e5,R5,w4⟩
  |bk ρ5=>exact fun O5 σ5 H5 e5 R5=>w4 O5 σ5 H5 (e1.trans (e4'.trans e5)) R5
  |rt rv=>exact w4
 ·have e:i=ds.length:=by omega
  subst e
  rw[List.drop_eq_nil_of_le (Nat.le_refl _)] at w2
  exact .inl ⟨stop,w2 O2 σ2 H2 (e1.trans e2) R2⟩
noncomputable def eT:D→Option (List D)
 | .tuple ds=>some ds
 | .list ds=>some ds
 |_=>none
def zZ (K:PySem.W.Frag) (tl:TE):TI:=fun σ H R=>tl σ H fun x H1=>∃a,x= .ref a∧(((∃xs,SqL K H1 a xs)∧R (HG K a) H1)∨((∃xs,SqT K H1 a xs)∧R (HL K a) H1))
theorem fY {X:Cx} {tg l:Expr} {tl:TE} (hl:PE X l tl):PI X tg l (zZ X.K tl):=by
 intro pins s σ H R I h
 refine dH (hl pins s σ H _ I h) fun v s1 ⟨x,H1,I1,r1,q1⟩=> ?_
 obtain⟨a,e,q⟩:=q1
 subst e
 cases r1
 rcases q with⟨⟨xs,hq⟩,q⟩|⟨⟨xs,hq⟩,q⟩
 ·obtain⟨its,rv,p,hz⟩:=I1.list hq
  refine PySem.wpAny_pyIter_list p.isList ?_
  refine⟨s1.heap.objs.size,[s1.heap.objs.size],_,_,H1,rfl,I1.kept (t':=s1.toks) fun b o e=>Heap.get?_push_of_some _ e,yn a _,⟨_,Heap.get?_push_size _ rfl,rfl,rfl⟩,fun b hb=> ?_,q⟩
  have e:b=s1.heap.objs.size:=by simpa using hb
  subst e
  exact I1.fpOk (Nat.le_refl _) (I1.hok.fresh (Nat.le_refl _))
 ·obtain⟨its,rv,p,hz⟩:=I1.tuple hq
  refine PySem.wpAny_pyIter_tuple (show s1.heap.IsTuple a its.toArray from p) ?_
  refine⟨s1.heap.objs.size,[s1.heap.objs.size],_,_,H1,rfl,I1.kept (t':=s1.toks) fun b o e=>Heap.get?_push_of_some _ e,wk a _,⟨_,Heap.get?_push_size _ rfl,rfl,rfl⟩,fun b hb=> ?_,q⟩
  have e:b=s1.heap.objs.size:=by simpa using hb
  subst e
  exact I1.fpOk (Nat.le_refl _) (I1.hok.fresh (Nat.le_refl _))
theorem xK {a:Addr} {xs:List V} {ds:List D} (h:SqLO O K H a xs) (hd:DVs O K H xs ds):u0 K (HG K a) O H ds:=by
 intro O' H' e n
 have h':=h.ev e
 have hd':=hd.ev e
 refine⟨fun i hi=> ?_,⟨xs,h'.1.sq,by rw[hd.length];exact Nat.le_refl _⟩⟩
 obtain⟨x,hx,_⟩:=hd'.get (List.getElem?_eq_getElem hi)
 refine⟨⟨xs,x,h'.1.sq,hx⟩,?_⟩
 rintro y H'' ⟨rfl,hy⟩
 obtain⟨d,q1,q2⟩:=hd'.getV (hy xs h'.1.sq)
 exact⟨Same.refl _,d,q1,q2⟩
theorem zN {a:Addr} {xs:List V} {ds:List D} (h:SqTO O K H a xs) (hd:DVs O K H xs ds):u0 K (HL K a) O H ds:=by
 intro O' H' e n
 have h':=h.ev e
 have hd':=hd.ev e
 refine⟨fun i hi=> ?_,⟨xs,h'.1,by rw[hd.length];exact Nat.le_refl _⟩⟩
 obtain⟨x,hx,_⟩:=hd'.get (List.getElem?_eq_getElem hi)
 refine⟨⟨xs,x,h'.1,hx⟩,?_⟩
 rintro y H'' ⟨rfl,hy⟩
 obtain⟨d,q1,q2⟩:=hd'.getV (hy xs h'.1)
 exact⟨Same.refl _,d,q1,q2⟩
noncomputable def kb (fe:FE):FI:=fun ρ=>(fe ρ).bind fun a=>(Res.ofO (ui a.2 a.1)).bind fun b=>(Res.ofO (eT b.1)).bind fun ds=> .ok (ds,b.2)
theorem iy {tl:TE} {fe:FE} (h:EO K E tl fe):IO K E (zZ K tl) (kb fe):=by
 intro B H0 O σ H ρ R' R w
 refine h B H0 O σ H ρ _ R (w.bind.imp fun a w1 O1 x H1 e1 R1 p1=> ?_)
 obtain⟨⟨d,ρ2⟩,q,w1⟩:=w1.ofO
 obtain⟨O2,e2,R2,dv⟩:=qB R1 p1 q
 obtain⟨ds,qs,w1⟩:=w1.ofO
 dsimp only at qs
 cases dv with
 |tup h hs=>cases qs;exact⟨_,rfl,.inr ⟨⟨_,h.1⟩,w1 O2 _ H1 (e1.trans e2) R2 (zN h hs)⟩⟩
 |lst h hs=>cases qs;exact⟨_,rfl,.inl ⟨⟨_,h.1.sq⟩,w1 O2 _ H1 (e1.trans e2) R2 (xK h hs)⟩⟩
 |_=>cases qs
noncomputable def fQ (lo:Int) (n:Nat):List D:=(List.range n).map fun(k:Nat)=> .int (lo+(k:Int))
theorem AD {lo:Int} {n:Nat}:u0 K (Ho lo n) O H (fQ lo n):=by
 intro O' H' e nn
 have hl:(fQ lo n).length=n:=by unfold fQ;rw[List.length_map,List.length_range]
 refine⟨fun i hi=> ?_,by show n≤_;rw[hl];exact Nat.le_refl _⟩
 rw[hl] at hi
 refine⟨hi,?_⟩
 rintro x H'' ⟨rfl,rfl⟩
 exact⟨Same.refl _,.int (lo+i),by unfold fQ;rw[List.getElem?_map,List.getElem?_range hi];rfl,.int _⟩
def jt (i:Int):Prop:= -(2^62)≤i∧i<2^62
noncomputable instance (i:Int):Decidable (jt i):=by unfold jt;infer_instance
noncomputable def uy:List D→Option (List D)
 |[.int j]=>if jt j then some (fQ 0 j.toNat) else none
 |_=>none
noncomputable def yQ (f:List D→Option (List D)) (fa:FA):FI:=fun ρ=>(fa ρ).bind fun a=>(Res.ofO (uF a.2 a.1)).bind fun ds=>(Res.ofO (f ds)).bind fun xs=> .ok (xs,a.2)
theorem x5 {ta:TA} {fa:FA} (h:AO K E ta fa):IO K E (DM ta) (yQ uy fa):=by
 intro B H0 O σ H ρ R' R w
 refine h B H0 O σ H ρ _ R (w.bind.imp fun a w1 O1 vs H1 e1 R1 p1=> ?_)
 obtain⟨ds,q,w1⟩:=w1.ofO
 obtain⟨xs,qx,w1⟩:=w1.ofO
 have px:=vN R1 p1 q
 unfold uy at qx
 split at qx
 ·rename_i j
  split at qx
  ·rename_i hj
   cases qx
   cases px with
   |cons h1 h2=>
    cases h2
    cases h1
    exact⟨j,rfl,hj.1,hj.2,w1 O1 _ H1 e1 R1 AD⟩
  ·cases qx
 ·cases qx
end
end L3
namespace L3
open PySem L2
section
variable {K:PySem.W.Frag} {E:XK} {B O O':b6} {H0 H H':Hp} {σ:St} {ρ ρ':aV} {v:V}
noncomputable def yg:Option PV→Option PV
 |some (.fz d)=>some (.fz d)
 |_=>none
noncomputable def dF (ρ:aV):aV:=ρ.map yg
theorem wy {i:Nat} {x:PV} (h:(dF ρ)[i]? =some (some x)):∃d,x= .fz d∧ρ[i]? =some (some (.fz d)):=by
 unfold dF at h
 rw[List.getElem?_map] at h
 cases q:ρ[i]? with
 |none=>rw[q] at h;cases h
 |some o=>
  rw[q] at h
  have h':yg o=some x:=Option.some.inj h
  unfold yg at h'
  split at h'
  ·cases h';exact⟨_,rfl,rfl⟩
  ·cases h'
noncomputable def qj (ρ:aV):List Nat→Option (List D×aV)
 |[]=>some ([],ρ)
 |j::r=>match ui ρ (.pl j) with
  |some (d,ρ1)=>(match qj ρ1 r with
   |some (c,ρ2)=>some (d::c,ρ2)
   |none=>none)
  |none=>none
theorem yL {i:Nat} {d:D} {ρ':aV} (R:Rl K B H0 O σ H ρ) (h:ui ρ (.pl i)=some (d,ρ')):∃v,σ[i]? =some (some v):=by
 have e':HV ρ i ρ[i]? =some (d,ρ'):=h
 cases q:ρ[i]? with
 |none=>rw[q] at e';cases e'
 |some o=>
  cases o with
  |none=>rw[q] at e';cases e'
  |some x=>obtain⟨v,g1,_⟩:=R.slot i x q;exact⟨v,g1⟩
theorem uA:∀{fv:List Nat} {ds:List D} {O:b6} {ρ ρ':aV},Rl K B H0 O σ H ρ→qj ρ fv=some (ds,ρ')→∃O' vs,Ev O H O' H∧Rl K B H0 O' σ H ρ'∧DVs O' K H vs ds∧fv.map (fun j=>(σ[j]?).join)=vs.map some
 |[],_,O,_,_,R,e=>by cases e;exact⟨O,[],.refl,R,.nil,rfl⟩
 |j::r,_,O,ρ,ρ',R,e=>by
  unfold qj at e
  cases q:ui ρ (.pl j) with
  |none=>rw[q] at e;cases e
  |some p=>
   obtain⟨d,ρ1⟩:=p
   rw[q] at e
   dsimp only at e
   cases q2:qj ρ1 r with
   |none=>rw[q2] at e;cases e
   |some p2=>
    obtain⟨c,ρ2⟩:=p2
    rw[q2] at e
    cases e
    obtain⟨v,hv⟩:=yL R q
    obtain⟨O1,e1,R1,d1⟩:=qB (v:=v) (pv:= .pl j) R hv q
    obtain⟨O2,vs,e2,R2,d2,h2⟩:=uA R1 q2
    exact⟨O2,v::vs,e1.trans e2,R2,.cons (d1.ev e2) d2,by rw[List.map_cons,List.map_cons,h2,hv];rfl⟩
noncomputable def eZ (gt:FG) (ft:FT) (fe:FE):List D→aV→List D→Res (List D)
 |[],_,acc=> .ok acc
 |d::r,ρ,acc=>(gt (.fz d) ρ).bind fun ρ1=>(ft ρ1).bind fun b=>if b.1=true then(fe b.2).bind fun a=>(Res.ofO (ui a.2 a.1)).bind fun x=>
   if acc.length<1000000 then eZ gt ft fe r (dF x.2) (acc++[x.1]) else .bad
  else eZ gt ft fe r (dF b.2) acc
noncomputable def pE {α:Type}:Res α→Res α
 | .er _=> .bad
 |r=>r
noncomputable def iB (n:Nat) (fv:List Nat) (fi:FI) (gt:FG) (ft:FT) (fe:FE):FE:=fun ρ=>(fi ρ).bind fun a=>(Res.ofO (qj a.2 fv)).bind fun c=>
 (pE (eZ gt ft fe a.1 (List.replicate n none++c.1.map fun d=>some (.fz d)) [])).bind fun xs=> .ok (.ow xs,c.2)
theorem xT {n:Nat} {own:List Str} (h:own.length=n):own.map (fun _=>(none:Option V))=List.replicate n none:=by
 subst h
 induction own with
 |nil=>rfl
 |cons x r ih=>rw[List.map_cons,ih,List.length_cons,List.replicate_succ]
theorem xY {α:Type} {r:Res α} {P:α→Prop} (h:WR K E B H0 P (pE r)):∃a,r= .ok a∧P a:=by
 cases r with
 |ok a=>exact⟨a,rfl,h⟩
 |er x=>exact h.elim
 |bad=>exact h.elim
def Hc (K:PySem.W.Frag) (J:It) (O:b6) (H:Hp) (ds:List D):Prop:=∀O' H',Ev O H O' H'→Same H H'→kY O' H'→
 (∀i,i<ds.length→J.go i H'∧∀x H'',J.yld i H' x H''→Same H' H''∧∃d,ds[i]? =some d∧DV O' K H'' x d)∧J.stop ds.length H'
def Ih (K:PySem.W.Frag) (E:XK) (wi:TI) (fi:FI):Prop:=
 ∀(B:b6) (H0:Hp) (O:b6) (σ:St) (H:Hp) (ρ:aV) (R':It→Hp→Prop),Rl K B H0 O σ H ρ→WR K E B H0 (fun r=>∀O' J H',Ev O H O' H'→Rl K B H0 O' σ H' r.2→Hc K J O' H' r.1→R' J H') (fi ρ)→wi σ H R'
theorem IO.s {wi:TI} {fi:FI} (h:IO K E wi fi):Ih K E wi fi:=fun B H0 O σ H ρ R' R w=>h B H0 O σ H ρ R' R (w.imp fun r q O' J H' e R it=>q O' J H' e R fun O2 H2 e2 _ n=>it O2 H2 e2 n)
theorem Bb {own:List Str} {fv:List (Str×Nat)} {wi:TI} {g:TG} {tc:TT} {te:TE} {fi:FI} {gt:FG} {ft:FT} {fe:FE} {n:Nat} {fj:List Nat} (hn:own.length=n) (hf:fv.map (·.2)=fj)
  (hi:Ih K E wi fi) (hg:GO K E0 g gt) (ht:TTO K E0 tc ft) (he:EO K E0 te fe):EO K E (qY own fv wi g tc te) (iB n fj fi gt ft fe):=by
 intro B H0 O σ H ρ Q R w
 refine hi B H0 O σ H ρ _ R (w.bind.imp fun a w1 O1 J H1 e1 R1 it=> ?_)
 obtain⟨ds,ρ1⟩:=a
 obtain⟨⟨cs,ρ2⟩,qc,w1⟩:=w1.ofO
 dsimp only at qc it
 obtain⟨O2,vs,e2,R2,dvs,hvs⟩:=uA R1 qc
 obtain⟨xs,qx,w1⟩:=xY (WR.bind w1)
 intro Dd hDd
 have hB:∀{H':Hp},Same H1 H'→H' Dd≠none→∀a,ck O2 Dd a→H' a≠none:=fun{H'} s nd a h z=>h.elim (fun q=>R2.od a (s.free z) q) fun e=>nd (by rw[←e];exact z)
 refine⟨fun i m σ' H'=>m=ds.length - i∧i≤ds.length∧∃(acc:List D) (ys:List V) (ρc:aV),Same H1 H'∧H' Dd=some (.lst ys)∧DVs (ck O2 Dd) K H' ys acc∧σ'.length=ρc.length∧(∀(j:Nat) (x:PV),ρc[j]? =some (some x)→∃d u,x=PV.fz d∧σ'[j]? =some (some u)∧DV (ck O2 Dd) K H' u d)∧eZ gt ft fe (ds.drop i) ρc acc= .ok xs,
  ⟨_,rfl,Nat.zero_le _,[],[],_,cb hDd _,aO,.nil,?_,fun j x hx=> ?_,qx⟩,?_⟩
 ·unfold gr
  rw[List.length_append,List.length_append,List.length_map,List.length_map,List.length_replicate,List.length_map,hn,←dvs.length]
  have:=congrArg List.length hvs
  rw[List.length_map,List.length_map,←hf,List.length_map] at this
  omega
 ·have hm:fv.map (fun p=>(σ[p.2]?).join)=vs.map some:=by rw[←hvs,←hf,List.map_map];rfl
  unfold gr
  rw[xT hn,hm]
  by_cases hj:j<n
  ·rw[List.getElem?_append_left (by rw[List.length_replicate];exact hj),List.getElem?_replicate,if_pos hj] at hx
   cases hx
  ·rw[List.getElem?_append_right (by rw[List.length_replicate];omega),List.length_replicate,List.getElem?_map] at hx⊢
   cases qd:cs[j - n]? with
   |none=>rw[qd] at hx;cases hx
   |some d=>
    rw[qd] at hx
    cases hx
    obtain⟨u,hu,du⟩:=dvs.get qd
    exact⟨d,u,rfl,by rw[hu];rfl,du.ev (Ev.add (cb hDd _) hDd)⟩
 ·rintro i m σ' H' ⟨rfl,hi,acc,ys,ρc,s,hD,dys,hl,hsl,qP⟩
  have nD:H' Dd≠none:=by rw[hD];simp
  have no':kY (ck O2 Dd) H':=fun a z h=>hB s nD a h z
  have ev1:Ev O1 H1 (ck O2 Dd) H':=e2.trans (Ev.add s hDd)
  obtain⟨go,stop⟩:=it (ck O2 Dd) H' ev1 s no'
  by_cases hlt:i<ds.length
  ·obtain⟨g1,g2⟩:=go i hlt
   refine .inr ⟨g1,fun σ5 H5=>i+1≤ds.length∧∃(acc:List D) (ys:List V) (ρc:aV),Same H1 H5∧H5 Dd=some (.lst ys)∧DVs (ck O2 Dd) K H5 ys acc∧σ5.length=ρc.length∧(∀(j:Nat) (x:PV),ρc[j]? =some (some x)→∃d u,x=PV.fz d∧σ5[j]? =some (some u)∧DV (ck O2 Dd) K H5 u d)∧eZ gt ft fe (ds.drop (i+1)) ρc acc= .ok xs,
    fun σ5 H5 ⟨h1,h2⟩=>⟨ds.length - (i+1),by omega,rfl,h1,h2⟩,fun x H3 y=> ?_⟩
   obtain⟨s3,d,hd,dv⟩:=g2 x H3 y
   have ed:ds.drop i=d::ds.drop (i+1):=by
    obtain⟨_,q⟩:=List.getElem?_eq_some_iff.mp hd
    rw[List.drop_eq_getElem_cons hlt,q]
   rw[ed] at qP
   have hD3:H3 Dd=some (.lst ys):=s3 _ _ hD
   have nD3:H3 Dd≠none:=by rw[hD3];simp
   have sv:Same H1 H3:=s.trans s3
   have RC:Rl K (ck O2 Dd) H3 (ck O2 Dd) σ' H3 ρc:=⟨Same.refl _,fun _ h=>h,hB sv nD3,fun a z h=>hB sv nD3 a h z,hl,fun j x hx=>by
     obtain⟨d,u,rfl,h1,h2⟩:=hsl j x hx
     exact⟨u,h1,h2.ev (Ev.grow s3)⟩,fun j k xs ys w hj=>by obtain⟨d,u,e,_⟩:=hsl j _ hj;cases e⟩
   unfold eZ at qP
   have back:∀{O5:b6} {σ5:St} {H5:Hp} {ρ5:aV} {H6:Hp},Rl K (ck O2 Dd) H3 O5 σ5 H5 ρ5→(∀b o,b≠Dd→H5 b=some o→H6 b=some o)→σ5.length=(dF ρ5).length∧∀(j:Nat) (x:PV),(dF ρ5)[j]? =some (some x)→∃d u,x=PV.fz d∧σ5[j]? =some (some u)∧DV (ck O2 Dd) K H6 u d:=fun{O5 σ5 H5 ρ5 H6} R5 k=>by
    refine⟨by unfold dF;rw[List.length_map];exact R5.len,fun j x hx=> ?_⟩
    obtain⟨d,rfl,hxx⟩:=wy hx
    obtain⟨u,h1,h2⟩:=R5.slot j _ hxx
    refine⟨d,u,rfl,h1,DV.ev (O:=ck O2 Dd) (H:=H5) (fun b o h n=>⟨k b o (fun e=>n (.inr e)) h,n⟩) (DV.ev (Ev.sub R5.bo) h2)⟩
   refine hg _ _ _ σ' H3 ρc x (.fz d) _ RC dv ?_
   cases qg:gt (.fz d) ρc with
   |er z=>rw[qg] at qP;cases qP
   |bad=>rw[qg] at qP;cases qP
   |ok ρ3=>
    rw[qg,Res.bind_ok] at qP
    intro O4 σ4 H4 e4 R4
    refine ht _ _ _ σ4 H4 ρ3 _ R4 ?_
    cases qt:ft ρ3 with
    |er z=>rw[qt] at qP;cases qP
    |bad=>rw[qt] at qP;cases qP
    |ok b=>
     obtain⟨b,ρ4⟩:=b
     rw[qt,Res.bind_ok] at qP
     intro O5 H5 e5 R5
     cases b with
     |false=>
      rw[if_neg Bool.false_ne_true] at qP⊢
      obtain⟨l5,k5⟩:=back R5 (H6:=H5) fun b o _ h=>h
      refine⟨hlt,acc,ys,dF ρ4,sv.trans R5.same,R5.same _ _ hD3,?_,l5,k5,qP⟩
      exact dys.ev (Ev.grow (s3.trans R5.same))
     |true=>
      rw[if_pos rfl] at qP⊢
      refine he _ _ _ σ4 H5 ρ4 _ R5 ?_
      cases qe:fe ρ4 with
      |er z=>rw[qe] at qP;cases qP
      |bad=>rw[qe] at qP;cases qP
      |ok r=>
       rw[qe,Res.bind_ok] at qP
       intro O6 yv H6 e6 R6 p6
       cases q7:ui r.2 r.1 with
       |none=>rw[q7] at qP;cases qP
       |some xr=>
        obtain⟨xd,ρ7⟩:=xr
        rw[q7] at qP
        obtain⟨O7,e7,R7,dv7⟩:=qB R6 p6 q7
        have hD7:H6 Dd=some (.lst ys):=R7.same _ _ hD3
        have qP':(if acc.length<1000000 then eZ gt ft fe (ds.drop (i+1)) (dF ρ7) (acc++[xd]) else .bad)= .ok xs:=qP
        by_cases hl6:acc.length<1000000
        ·rw[if_pos hl6] at qP'
         have up:∀b o,b≠Dd→H6 b=some o→bL H6 Dd (.lst (ys++[yv])) b=some o:=fun b o hb h=>by rw[aX hb];exact h
         have cV:Ev (ck O2 Dd) H6 (ck O2 Dd) (bL H6 Dd (.lst (ys++[yv]))):=fun b o h n=>⟨up b o (fun e=>n (.inr e)) h,n⟩
         have dys6:DVs (ck O2 Dd) K H6 ys acc:=dys.ev (Ev.grow (s3.trans R7.same))
         obtain⟨l5,k5⟩:=back R7 up
         refine⟨ys,hD7,qE (by rw[dys.length];exact hl6),hlt,acc++[xd],ys++[yv],dF ρ7,fun b o h=> ?_,aO,?_,l5,k5,qP'⟩
         ·rw[aX (cj h hDd)]
          exact R7.same _ _ (sv _ _ h)
         ·exact(dys6.append (.cons (DV.ev (Ev.sub R7.bo) dv7) .nil)).ev cV
        ·rw[if_neg hl6] at qP'
         cases qP'
  ·have e:i=ds.length:=by omega
   subst e
   rw[List.drop_eq_nil_of_le (Nat.le_refl _)] at qP
   have qP:Res.ok acc= .ok xs:=qP
   cases qP
   refine .inl ⟨stop,?_⟩
   refine w1 (ck O2 Dd) (.ref Dd) H' (e1.trans ev1) (R2.add s hDd nD) ⟨Dd,ys,rfl,.inr rfl,R2.none0 hDd,hD,dys,fun k es hk z=> ?_⟩
   obtain⟨u,h1,b,us,e2,g1,g2,g3,g4⟩:=R2.slot k _ hk
   rw[z] at h1
   cases h1
   cases e2
   rw[hDd] at g3
   cases g3
theorem jx {own:List Str} {fv:List (Str×Nat)} {wi:TI} {g:TG} {tc:TT} {te:TE} {fi:FI} {gt:FG} {ft:FT} {fe:FE} {n:Nat} {fj:List Nat} (hn:own.length=n) (hf:fv.map (·.2)=fj)
  (hi:IO K E wi fi) (hg:GO K E0 g gt) (ht:TTO K E0 tc ft) (he:EO K E0 te fe):EO K E (qY own fv wi g tc te) (iB n fj fi gt ft fe):=Bb hn hf hi.s hg ht he
noncomputable def gL (F:FN) (n:Nat) (fa:FA):FE:=fun ρ=>(fa ρ).bind fun a=>(Res.ofO (mV a.2 a.1)).bind fun b=>if b.1.length=n then(pE (F b.1)).bind fun rv=> .ok (rv.pv,b.2) else .bad
theorem eP {F:FN} {n:Nat} {ta:TA} {fa:FA} (ha:AO K E ta fa):EO K E (qM (qu K n F) [] E0 ta) (gL F n fa):=by
 intro B H0 O σ H ρ Q R w
 refine ha B H0 O σ H ρ _ R (w.bind.imp fun a w1 O1 vs H1 e1 R1 p1=> ?_)
 obtain⟨⟨ds,ρ2⟩,q,w2⟩:=w1.ofO
 obtain⟨O2,e2,R2,dv⟩:=nG R1 p1 q
 dsimp only at w2
 by_cases hn:ds.length=n
 ·rw[if_pos hn] at w2
  obtain⟨rv,qF,w2⟩:=xY (WR.bind w2)
  rw[List.append_nil]
  refine⟨dv.length.trans hn,O2,ds,fun a z hz=>R2.od a hz z,dv,?_⟩
  rw[qF]
  exact lD R2 fun O3 v H3 e3 R3 p3=>w2 O3 v H3 (e1.trans (e2.trans e3)) R3 p3
 ·rw[if_neg hn] at w2
  exact w2.elim
end
noncomputable def iJ (N:Nat) (g:FS):FN:=fun ds=>(g (ds.map (fun d=>some (.fz d))++List.replicate (N - ds.length) none)).bind fun fl=>match fl with
 | .rt rv=> .ok rv
 | .nx _=> .ok (.fz .none)
 |_=> .bad
theorem AW {K:PySem.W.Frag} {B:b6} {H:Hp} {N:List Str} {vs:List V} {ds:List D} (hb:∀a,B a→H a≠none) (dv:DVs B K H vs ds):Rl K B H B (L2.start N vs) H (ds.map (fun d=>some (.fz d))++List.replicate (N.length - ds.length) none):=by
 have hl:=dv.length
 refine⟨Same.refl _,fun _ h=>h,hb,fun a z h=>hb a h z,?_,fun i x hx=> ?_,fun i j xs ys w hi=> ?_⟩
 ·unfold L2.start
  rw[List.length_append,List.length_append,List.length_map,List.length_map,List.length_replicate,List.length_replicate,hl]
 all_goals
  have key:∀{i:Nat} {x:PV},(ds.map (fun d=>some (PV.fz d))++List.replicate (N.length - ds.length) none)[i]? =some (some x)→∃d,x= .fz d∧ds[i]? =some d:=fun{i x} h=>by
   by_cases hi:i<ds.length
   ·rw[List.getElem?_append_left (by rw[List.length_map];exact hi),List.getElem?_map] at h
    cases q:ds[i]? with
    |none=>rw[q] at h;cases h
    |some d=>rw[q] at h;cases h;exact⟨d,rfl,rfl⟩
   ·rw[List.getElem?_append_right (by rw[List.length_map];omega),List.getElem?_replicate] at h
    split at h<;>cases h
 ·obtain⟨d,rfl,hd⟩:=key hx
  obtain⟨v,hv,h2⟩:=dv.get hd
  refine⟨v,?_,h2⟩
  have hi:i<vs.length:=(List.getElem?_eq_some_iff.mp hv).1
  unfold L2.start
  rw[List.getElem?_append_left (by rw[List.length_map];exact hi),List.getElem?_map,hv]
  rfl
 ·obtain⟨d,e,_⟩:=key hi
  cases e
theorem Im {P:Program} {w:World} {K:PySem.W.Frag} {mg:Str→Option Value} {base:Heap} {x qual:Str} {st:Stmt} {f:Addr} {fd:FuncData} {N ps:List Str} {k n:Nat} {g:FS} (F:Fun K x qual st f fd) (S:FnScope N ps (ag st)) (hn:ps.length=n)
  (hbody:∀(cdv:Value) (A:Around) (outer:List Env) (s:Shared) (H:Hp) (E:XK),Room k (A.deeper (PyProof.Rows.envOfC qual (ag st) s.heap.objs.size f cdv))→
   ∃t,PSs (se dR P w K mg base N qual (ag st) f cdv A outer s H E).nox (a9 st) t∧SO K E t g):FnOk P w K mg base dR (k+1) f fd ps (qu K n (iJ N.length g)):=by
 refine F.ok S (fun vs H Q E h=>h.1.trans hn.symm) (fun cdv A outer s H vs Q E hr h=> ?_)
 obtain⟨t,ht,hs⟩:=hbody cdv A outer s H E hr
 obtain⟨hl,B,ds,hb,dv,h⟩:=h
 refine⟨t,ht,hs B H B _ H _ _ (AW hb dv) (WR.imp (WR.bind h) fun fl q=> ?_)⟩
 cases fl with
 |rt rv=>exact q
 |nx ρ=>exact fun O' σ' H' e R=>q .non H' R.same .non
 |bk ρ=>exact q.elim
 |ct ρ=>exact q.elim
end L3
namespace L3
open PySem PySem.Spec PyProof.Rows L2
theorem OpR.or {X:Cx} {f:Value→Value→Sem Value} {r r':R2} (h:OpR X f r) (h':OpR X f r'):OpR X f (fun x y H Q=>r x y H Q∨r' x y H Q):=by
 intro pins s σ H x y v u Q I rx ry q
 rcases q with q|q
 ·exact h pins s σ H x y v u Q I rx ry q
 ·exact h' pins s σ H x y v u Q I rx ry q
theorem FW {X:Cx} {pins:List (Addr×Obj)} {σ:L2.St} {H:Hp} {s:Shared} {l:Addr} {xs:List V} (I:Inv X pins σ H s) (h:SqLX X.K H l xs):xs.length≤sizeLine∧∃(its:List Value) (n:Nat),Vals xs its∧xs.length=its.length∧s.heap.get? l=some {cls:= .type "list",data:= .seq its.toArray n}:=by
 rcases h with(h|⟨o,h⟩)|⟨its,n,h1,h2,h3⟩
 ·exact I.lstM h
 ·obtain⟨_,z,its,n,r,e⟩:=I.hok l _ h
  exact⟨z,its,n,r,r.length,e⟩
 ·exact⟨h2,its,n,h3,h3.length,I.kIn _ _ h1⟩
def DU (K:PySem.W.Frag):R2:=fun x y H Q=>∃l b xs zs,x= .ref l∧y= .ref b∧SqLX K H l xs∧SqLX K H b zs∧xs.length+zs.length≤sizeLine∧∀p,H p=none→Q (.ref p) (bL H p (.lst (xs++zs)))
theorem C9 {X:Cx}:OpR X (binaryOp .Add) (DU X.K):=by
 intro pins s σ H x y v u Q I rx ry h
 obtain⟨l,b,xs,zs,rfl,rfl,hH,hB,hz,q⟩:=h
 cases rx
 cases ry
 obtain⟨z,its,n,r,hl,e⟩:=FW I hH
 obtain⟨z2,its2,n2,r2,hl2,e2⟩:=FW I hB
 refine PySem.P.add_list e e2 ?_ (by rw[List.size_toArray,List.size_toArray];omega)
 have ea:its.toArray++its2.toArray=(its++its2).toArray:=by simp
 rw[ea]
 exact⟨.ref _,_,I.lnew (t':=s.toks) (r.append r2) (by rw[List.length_append];omega),rfl,q _ I.fresh⟩
def DB (K:PySem.W.Frag):R2:=fun x y H Q=>∃l k xs,x= .ref l∧y= .int k∧SqLX K H l xs∧ -(2^63)≤k∧k<2^63∧xs.length*k.toNat≤sizeLine∧
 ∀p,H p=none→Q (.ref p) (bL H p (.lst (List.replicate k.toNat xs).flatten))
theorem Ce {X:Cx}:OpR X (binaryOp .Mult) (DB X.K):=by
 intro pins s σ H x y v u Q I rx ry h
 obtain⟨l,k,xs,rfl,rfl,hH,h1,h2,hz,q⟩:=h
 cases rx
 obtain⟨t,rfl⟩:=ry
 obtain⟨z,its,n,r,hl,e⟩:=FW I hH
 have hlen:its.toArray.size*k.toNat≤sizeLine:=by rw[List.size_toArray,←hl];exact hz
 have hcap:¬its.toArray.size*k.toNat>(2^63 - 1)/8:=by
  have:(sizeLine:Nat)≤(2^63 - 1)/8:=by decide
  omega
 have hfit:¬(!Builtin.List.listFitsIndex k)=true:=by
  rw[fitsIndex_both h1 h2]
  exact Bool.false_ne_true
 have hlong:¬Builtin.List.listTooLong (its.toArray.size*k.toNat)=true:=by
  rw[Aw hlen]
  exact Bool.false_ne_true
 have hnew:List.foldl (fun x1 x2=>x1++x2) #[] (List.replicate (if its.toArray.isEmpty=true then 0 else k.toNat) its.toArray)=(List.replicate k.toNat its).flatten.toArray:=by
  have f0:∀m:Nat,List.foldl (fun x1 x2=>x1++x2) #[] (List.replicate m its.toArray)=(List.replicate m its).flatten.toArray:=fun m=>by
   have:=lP its m []
   rw[List.nil_append] at this
   exact this
  rw[f0]
  cases its with
  |nil=>simp
  |cons a r'=>rw[if_neg (by simp)]
 refine wpAny_binaryOp_repeat_ref (T:= "list") (U:= "int") (by decide) ⟨_,e,rfl⟩ (fun s'=>typeIs_int s' k t) noFill_list_mul F.fills_int_mul F.slot_int_rmul repeat_list F.slot_int_index.lookup
  (call_meets F.slot_int_rmul (typeIs_int s k t) F.entry_int_rmul (F.args_int_rmul_2 _ _) (int___rmul___int_list k t l its.toArray n)
   ⟨e,rfl,⟨_,e,rfl⟩,call_meets F.slot_list_mul ⟨_,e,rfl⟩ F.entry_list_mul (F.args_list_mul_2 _ _) (AutoListH.list___mul___list_int_3 l its.toArray n k t hfit hcap hlong) ⟨e,?_⟩⟩)
 rw[hnew]
 exact⟨.ref _,_,I.lnew (t':=s.toks) (r.rep k.toNat) (by rw[wP,Nat.mul_comm];exact hz),rfl,q _ I.fresh⟩
section
variable {K:PySem.W.Frag}
noncomputable def fI (g:Int→Int→Int):D→D→Option RV
 | .int i,.int j=>some (.fz (.int (g i j)))
 |_,_=>none
noncomputable def fB (g:Int→Int→Bool):D→D→Option RV
 | .int i,.int j=>some (.fz (.bool (g i j)))
 |_,_=>none
noncomputable def Hl (C:Int→Int→Bool) (g:Int→Int→Int):D→D→Option RV
 | .int i,.int j=>if C i j=true then some (.fz (.int (g i j))) else none
 |_,_=>none
theorem Bj {g:Int→Int→Int} {dx dy:D} {rv:RV} (h:fI g dx dy=some rv):∃i j,dx= .int i∧dy= .int j∧rv= .fz (.int (g i j)):=by
 unfold fI at h
 split at h
 ·cases h;exact⟨_,_,rfl,rfl,rfl⟩
 ·cases h
theorem GJ {g:Int→Int→Int}:pI K (zg fun i j=> .int (g i j)) (fI g):=by
 intro O H x y dx dy rv Q n hx hy e q
 obtain⟨i,j,rfl,rfl,rfl⟩:=Bj e
 cases hx;cases hy
 exact⟨i,j,rfl,rfl,q.at (.int _)⟩
theorem D6 {g:Int→Int→Bool}:pI K (zg fun i j=> .bl (g i j)) (fB g):=by
 intro O H x y dx dy rv Q n hx hy e q
 unfold fB at e
 split at e
 ·cases e
  cases hx;cases hy
  exact⟨_,_,rfl,rfl,q.at (.bl _)⟩
 ·cases e
theorem zB {C:Int→Int→Bool} {C':Int→Int→Prop} {g:Int→Int→Int} (hC:∀i j,C i j=true→C' i j):pI K (rI C' fun i j=> .int (g i j)) (Hl C g):=by
 intro O H x y dx dy rv Q n hx hy e q
 unfold Hl at e
 split at e
 ·split at e
  ·rename_i hc
   cases e
   cases hx;cases hy
   exact⟨_,_,rfl,rfl,hC _ _ hc,q.at (.int _)⟩
  ·cases e
 ·cases e
theorem xn {O:b6} {H:Hp} {x:V} {ds:List D} (h:DX O K H x (.list ds)):∃a xs,x= .ref a∧SqLX K H a xs∧DVs O K H xs ds:=h
theorem AQ {O:b6} {H:Hp} {x:V} {ds:List D} (h:DX O K H x (.tuple ds)):∃a xs,x= .ref a∧SqTO O K H a xs∧DVs O K H xs ds:=zJ h rfl
def Ea (K:PySem.W.Frag):R2:=fun x y H Q=>zg (fun i j=> .int (i+j)) x y H Q∨DU K x y H Q∨DW K x y H Q
theorem dn {X:Cx}:OpR X (binaryOp .Add) (Ea X.K):=OpR.or E4 (OpR.or C9 Cp)
noncomputable def eW:D→D→Option RV
 | .int i,.int j=>some (.fz (.int (i+j)))
 | .list xs,.list ys=>if xs.length+ys.length≤1000000 then some (.ow (xs++ys)) else none
 | .tuple xs,.tuple ys=>if xs≠[]∧xs.length+ys.length≤1000000 then some (.fz (.tuple (xs++ys))) else none
 |_,_=>none
theorem wH {n:Nat} (h:n≤1000000):n≤sizeLine:=Nat.le_trans h (by decide)
theorem DVs.ne {O:b6} {H:Hp} {vs:List V} {ds:List D} (h:DVs O K H vs ds):vs=[]↔ds=[]:=by cases h<;>simp
theorem dz:pI K (Ea K) eW:=by
 intro O H x y dx dy rv Q n hx hy e q
 unfold eW at e
 split at e
 ·cases e
  cases hx;cases hy
  exact .inl ⟨_,_,rfl,rfl,q.at (.int _)⟩
 ·split at e
  ·rename_i hl
   cases e
   obtain⟨a,xs,rfl,h1,h2⟩:=xn hx
   obtain⟨b,ys,rfl,g1,g2⟩:=xn hy
   exact .inr (.inl ⟨a,b,xs,ys,rfl,rfl,h1,g1,wH (by rw[h2.length,g2.length];exact hl),Fin.new (h2.append g2) q⟩)
  ·cases e
 ·split at e
  ·rename_i hl
   cases e
   obtain⟨a,xs,rfl,h1,h2⟩:=AQ hx
   obtain⟨b,ys,rfl,g1,g2⟩:=AQ hy
   refine .inr (.inr ⟨a,b,xs,ys,rfl,rfl,h1.1,g1.1,fun z=>hl.1 (h2.ne.mp z),wH (by rw[h2.length,g2.length];exact hl.2),fun z=> ?_,fun _=>Fin.newT (h2.append g2) n q⟩)
   have z':=g2.ne.mp z
   subst z'
   rw[List.append_nil] at q
   exact q.at (.tup h1 h2)
  ·cases e
 ·cases e
def Bz (K:PySem.W.Frag):R2:=fun x y H Q=>rI CMul (fun i j=> .int (i*j)) x y H Q∨DB K x y H Q
theorem B2 {X:Cx}:OpR X (binaryOp .Mult) (Bz X.K):=OpR.or FR Ce
noncomputable def f9 (i:Int):Bool:=decide (-(2^64)<i∧i<2^64)
theorem oW {i:Int} (h:f9 i=true): -(2^64)<i∧i<2^64:=of_decide_eq_true h
noncomputable def yo:D→D→Option RV
 | .int i,.int j=>if(f9 i||f9 j)=true then some (.fz (.int (i*j))) else none
 | .list xs,.int k=>if xs.length*k.toNat≤1000000∧ -(2^63)≤k∧k<2^63 then some (.ow (List.replicate k.toNat xs).flatten) else none
 |_,_=>none
theorem Dr:pI K (Bz K) yo:=by
 intro O H x y dx dy rv Q n hx hy e q
 unfold yo at e
 split at e
 ·split at e
  ·rename_i hc
   cases e
   cases hx;cases hy
   refine .inl ⟨_,_,rfl,rfl,?_,q.at (.int _)⟩
   rcases(Bool.or_eq_true _ _).mp hc with z|z
   ·exact .inl (oW z)
   ·exact .inr (oW z)
  ·cases e
 ·split at e
  ·rename_i hc
   cases e
   cases hy
   obtain⟨a,xs,rfl,h1,h2⟩:=xn hx
   exact .inr ⟨a,_,xs,rfl,rfl,h1,hc.2.1,hc.2.2,wH (by rw[h2.length];exact hc.1),Fin.new (h2.flat _) q⟩
  ·cases e
 ·cases e
noncomputable def sW:=fI fun i j=>i - j
theorem xl:pI K (zg fun i j=> .int (i - j)) sW:=GJ
noncomputable def Eu (_ j:Int):Bool:=decide (0<j)
noncomputable def lM:=Hl Eu fun i j=>i % j
theorem ju:pI K (rI (fun _ j=>0<j) fun i j=> .int (i % j)) lM:=zB fun i j h=>of_decide_eq_true h
noncomputable def EZ (_ j:Int):Bool:=decide (0<j∧j<2^128)
noncomputable def u6:=Hl EZ fun i j=>i/j
theorem r9:pI K (rI (fun _ j=>0<j∧j.natAbs.log2<9000) fun i j=> .int (i/j)) u6:=zB fun i j h=>by
 have h':=of_decide_eq_true h
 refine⟨h'.1,?_⟩
 have h2:j.natAbs<2^128:=by
  have:=h'.2
  omega
 have h3:j.natAbs.log2<128:=(Nat.log2_lt (by omega)).mpr h2
 omega
noncomputable def HU:=fB fun i j=>decide (i<j)
noncomputable def Gc:=fB fun i j=>decide (j<i)
theorem Ej:pI K (zg fun i j=> .bl (decide (i<j))) HU:=D6
theorem zk:pI K (zg fun i j=> .bl (decide (j<i))) Gc:=D6
noncomputable def iL (d:D):Bool:=d.canLay0&&decide (d.depth≤64)
noncomputable def dE (d e:D):Option RV:=if(iL d&&e.canLay0)=true then some (.fz (.bool (PyData.eqv d e))) else none
noncomputable def mG (d e:D):Option RV:=if(iL d&&e.canLay0)=true then some (.fz (.bool (!PyData.eqv d e))) else none
theorem cO:pI K (Cr K false) dE:=by
 intro O H x y dx dy rv Q n hx hy e q
 unfold dE at e
 split at e
 ·rename_i hc
  cases e
  unfold iL at hc
  simp only[Bool.and_eq_true,decide_eq_true_eq] at hc
  exact⟨dx,dy,hx.plain,hy.plain,hc.1.1,hc.2,hc.1.2,q.at (.bl _)⟩
 ·cases e
theorem gY:pI K (Cr K true) mG:=by
 intro O H x y dx dy rv Q n hx hy e q
 unfold mG at e
 split at e
 ·rename_i hc
  cases e
  unfold iL at hc
  simp only[Bool.and_eq_true,decide_eq_true_eq] at hc
  exact⟨dx,dy,hx.plain,hy.plain,hc.1.1,hc.2,hc.1.2,q.at (.bl _)⟩
 ·cases e
noncomputable def sY:D→D→Option RV
 | .none,.none=>some (.fz (.bool true))
 |_,.none=>some (.fz (.bool false))
 |_,_=>none
noncomputable def oC:D→D→Option RV
 | .none,.none=>some (.fz (.bool false))
 |_,.none=>some (.fz (.bool true))
 |_,_=>none
theorem Bq {O:b6} {H:Hp} {x:V} {d:D} (h:DX O K H x d) (hd:d≠ .none):x≠ .non:=by
 cases d with
 |none=>exact absurd rfl hd
 |list ds=>obtain⟨a,xs,rfl,_⟩:=xn h;simp
 |tuple ds=>obtain⟨a,xs,rfl,_⟩:=AQ h;simp
 |bool b=>cases h;simp
 |int b=>cases h;simp
 |str b=>cases h;simp
 |dict b=>cases h
theorem xC:pI K (fun x y H Q=>y= .non∧Q (.bl (decide (x= .non))) H) sY:=by
 intro O H x y dx dy rv Q n hx hy e q
 unfold sY at e
 split at e
 ·cases e
  cases hx;cases hy
  exact⟨rfl,q.at (.bl _)⟩
 ·rename_i hd
  cases e
  cases hy
  refine⟨rfl,?_⟩
  rw[decide_eq_false (Bq hx hd)]
  exact q.at (.bl _)
 ·cases e
theorem sj:pI K (fun x y H Q=>y= .non∧Q (.bl (!decide (x= .non))) H) oC:=by
 intro O H x y dx dy rv Q n hx hy e q
 unfold oC at e
 split at e
 ·cases e
  cases hx;cases hy
  exact⟨rfl,q.at (.bl _)⟩
 ·rename_i hd
  cases e
  cases hy
  refine⟨rfl,?_⟩
  rw[decide_eq_false (Bq hx hd)]
  exact q.at (.bl _)
 ·cases e
def B5 (K:PySem.W.Frag) (neg:Bool):R2:=fun x y H Q=>∃d ds,L2.DV K H x d∧(L2.DV K H y (.list ds)∨L2.DV K H y (.tuple ds))∧d.canLay0=true∧PyData.canLayAll0 ds=true∧d.depth≤64∧Q (.bl (if neg then !(ds.any fun e=>PyData.eqv e d) else ds.any fun e=>PyData.eqv e d)) H
theorem vK {X:Cx} (hu:X.A.units+65<cLine):OpR X (compareOp .In) (B5 X.K false):=by
 intro pins s σ H x y v u Q I rx ry h
 obtain⟨d,ds,h1,h2,l1,l2,hd,q⟩:=h
 obtain⟨as,r1⟩:=h1.reads I rx
 have hm:min (PyData.depthAll ds) d.depth≤64:=Nat.le_trans (Nat.min_le_right _ _) hd
 rcases h2 with h2|h2
 ·obtain⟨bs,r2⟩:=h2.reads I ry
  exact PySem.SeqAt.in_list_reads r2 r1 l2 l1 (by omega) ⟨.bl _,H,I,rfl,q⟩
 ·obtain⟨bs,r2⟩:=h2.reads I ry
  exact PySem.SeqAt.in_tuple_reads r2 r1 l2 l1 (by omega) ⟨.bl _,H,I,rfl,q⟩
theorem rK {X:Cx} (hu:X.A.units+65<cLine):OpR X (compareOp .NotIn) (B5 X.K true):=by
 intro pins s σ H x y v u Q I rx ry h
 obtain⟨d,ds,h1,h2,l1,l2,hd,q⟩:=h
 obtain⟨as,r1⟩:=h1.reads I rx
 have hm:min (PyData.depthAll ds) d.depth≤64:=Nat.le_trans (Nat.min_le_right _ _) hd
 rcases h2 with h2|h2
 ·obtain⟨bs,r2⟩:=h2.reads I ry
  exact PySem.SeqAt.notIn_list_reads r2 r1 l2 l1 (by omega) ⟨.bl _,H,I,rfl,q⟩
 ·obtain⟨bs,r2⟩:=h2.reads I ry
  exact PySem.SeqAt.notIn_tuple_reads r2 r1 l2 l1 (by omega) ⟨.bl _,H,I,rfl,q⟩
noncomputable def Cd (d e:D):Option RV:=match eT e with
 |some ds=>if(iL d&&PyData.canLayAll0 ds)=true then some (.fz (.bool (ds.any fun e=>PyData.eqv e d))) else none
 |none=>none
noncomputable def mU (d e:D):Option RV:=match eT e with
 |some ds=>if(iL d&&PyData.canLayAll0 ds)=true then some (.fz (.bool (!ds.any fun e=>PyData.eqv e d))) else none
 |none=>none
theorem z7 {O:b6} {H:Hp} {y:V} {e:D} {ds:List D} (hy:DX O K H y e) (h:eT e=some ds):L2.DV K H y (.list ds)∨L2.DV K H y (.tuple ds):=by
 unfold eT at h
 split at h
 ·cases h;exact .inr hy.plain
 ·cases h;exact .inl hy.plain
 ·cases h
theorem vW:pI K (B5 K false) Cd:=by
 intro O H x y dx dy rv Q n hx hy e q
 unfold Cd at e
 split at e
 ·rename_i ds hs
  split at e
  ·rename_i hc
   cases e
   unfold iL at hc
   simp only[Bool.and_eq_true,decide_eq_true_eq] at hc
   exact⟨dx,ds,hx.plain,z7 hy hs,hc.1.1,hc.2,hc.1.2,q.at (.bl _)⟩
  ·cases e
 ·cases e
theorem sC:pI K (B5 K true) mU:=by
 intro O H x y dx dy rv Q n hx hy e q
 unfold mU at e
 split at e
 ·rename_i ds hs
  split at e
  ·rename_i hc
   cases e
   unfold iL at hc
   simp only[Bool.and_eq_true,decide_eq_true_eq] at hc
   exact⟨dx,ds,hx.plain,z7 hy hs,hc.1.1,hc.2,hc.1.2,q.at (.bl _)⟩
  ·cases e
 ·cases e
noncomputable def bH (d e:D):Option RV:=match eT d,e with
 |some ds,.int i=>(l8 ds i).map .fz
 |_,_=>none
theorem Ax {O:b6} {H:Hp} {xs:List V} {ds:List D} {i:Int} {d:D} (h:DVs O K H xs ds) (e:l8 ds i=some d):∃v,l8 xs i=some v∧DV O K H v d:=by
 unfold l8 at e⊢
 rw[h.length]
 cases q:DI ds.length i with
 |none=>rw[q] at e;cases e
 |some j=>
  rw[q] at e
  exact h.get e
theorem aN:pI K (Hm K) bH:=by
 intro O H x y dx dy rv Q n hx hy e q
 unfold bH at e
 split at e
 ·rename_i ds i hs
  cases hy
  cases qa:l8 ds i with
  |none=>rw[qa] at e;cases e
  |some d=>
   rw[qa] at e
   cases e
   unfold eT at hs
   split at hs
   ·cases hs
    obtain⟨a,xs,rfl,h1,h2⟩:=AQ hx
    obtain⟨v,hv,dv⟩:=Ax h2 qa
    exact .inr (.inl ⟨a,xs,i,v,rfl,rfl,h1.1,hv,q.at dv⟩)
   ·cases hs
    obtain⟨a,xs,rfl,h1,h2⟩:=xn hx
    obtain⟨v,hv,dv⟩:=Ax h2 qa
    exact .inl ⟨a,xs,i,v,rfl,rfl,h1.sq,hv,q.at dv⟩
   ·cases hs
 ·cases e
noncomputable def yI (xs:List D) (lo hi:Option Int):List D:=(xs.drop (HT.sIx xs.length 0 lo)).take (HT.sIx xs.length xs.length hi - HT.sIx xs.length 0 lo)
theorem zE {O:b6} {H:Hp} {xs:List V} {ds:List D} {lo hi:Option Int} (h:DVs O K H xs ds):DVs O K H (uY xs lo hi) (yI ds lo hi):=by
 unfold uY yI
 rw[h.length]
 exact(h.drop _).take _
noncomputable def tS (n:Nat) (lo hi:Option Int):Bool:=decide (HT.sIx n 0 lo=0∧HT.sIx n n hi=n)
def Gi (K:PySem.W.Frag):V→Option Int→Option Int→Hp→VK→Prop:=fun x lo hi H Q=>G8 K x lo hi H Q∨G4 K x lo hi H Q
theorem FH {X:Cx}:Hh X (Gi X.K):=by
 intro pins s σ H x v vl vu lo hi sl Q I rx hs pl pu h
 rcases h with h|h
 ·exact Ct pins s σ H x v vl vu lo hi sl Q I rx hs pl pu h
 ·exact Fv pins s σ H x v vl vu lo hi sl Q I rx hs pl pu h
noncomputable def Hg:D→Option Int→Option Int→Option RV
 | .list ds,lo,hi=>some (.ow (yI ds lo hi))
 | .tuple ds,lo,hi=>if tS ds.length lo hi=true then none else some (.fz (.tuple (yI ds lo hi)))
 |_,_,_=>none
theorem Cl:Il K (Gi K) Hg:=by
 intro O H x lo hi dx rv Q n hx e q
 unfold Hg at e
 split at e
 ·cases e
  obtain⟨a,xs,rfl,h1,h2⟩:=xn hx
  exact .inl ⟨a,xs,rfl,h1.sq,Fin.new (zE h2) q⟩
 ·split at e
  ·cases e
  ·rename_i hw
   cases e
   obtain⟨a,xs,rfl,h1,h2⟩:=AQ hx
   refine .inr ⟨a,xs,rfl,h1.1,fun z=>hw ?_,Fin.newT (zE h2) n q⟩
   unfold tS
   rw[←h2.length]
   exact decide_eq_true z
 ·cases e
noncomputable def h7:List D→Option RV
 |[d]=>(match eT d with
  |some ds=>some (.fz (.int ds.length))
  |none=>none)
 |_=>none
theorem og:BO K (fun xs H Q=>∃x n,xs=[x]∧GM K x H n∧Q (.int n) H) h7:=by
 intro O H xs ds rv Q n hp e q
 unfold h7 at e
 split at e
 ·split at e
  ·rename_i es hs
   cases e
   cases hp with
   |cons h1 h2=>
    cases h2
    unfold eT at hs
    split at hs
    ·cases hs
     obtain⟨a,xs,rfl,h1,h2⟩:=AQ h1
     exact⟨_,xs.length,rfl,.inr ⟨xs,h1.1,rfl⟩,by rw[h2.length];exact q.at (.int _)⟩
    ·cases hs
     obtain⟨a,xs,rfl,h1,h2⟩:=xn h1
     exact⟨_,xs.length,rfl,.inl ⟨xs,h1.sq,rfl⟩,by rw[h2.length];exact q.at (.int _)⟩
    ·cases hs
  ·cases e
 ·cases e
noncomputable def mI:List D→Option RV
 |[.tuple ds]=>some (.fz (.tuple ds))
 |[.list ds]=>some (.fz (.tuple ds))
 |_=>none
theorem ld:BO K (fun xs H Q=>∃p ys,xs=[.ref p]∧((SqL K H p ys∧∀l,H l=none→Q (.ref l) (bL H l (.tup ys)))∨(SqT K H p ys∧Q (.ref p) H))) mI:=by
 intro O H xs ds rv Q n hp e q
 unfold mI at e
 split at e
 ·cases e
  cases hp with
  |cons h1 h2=>
   cases h2
   obtain⟨a,xs,rfl,h1,h2⟩:=AQ h1
   exact⟨a,xs,rfl,.inr ⟨h1.1,q.at (.tup h1 h2)⟩⟩
 ·cases e
  cases hp with
  |cons h1 h2=>
   cases h2
   obtain⟨a,xs,rfl,h1,h2⟩:=xn h1
   exact⟨a,xs,rfl,.inl ⟨h1.sq,Fin.newT h2 n q⟩⟩
 ·cases e
noncomputable def tF:List D→Option RV
 |[d]=>(eT d).map .ow
 |_=>none
theorem Ck:BO K (fun xs H Q=>∃p ys,xs=[.ref p]∧(SqL K H p ys∨SqT K H p ys)∧∀l,H l=none→Q (.ref l) (bL H l (.lst ys))) tF:=by
 intro O H xs ds rv Q n hp e q
 unfold tF at e
 split at e
 ·rename_i d
  cases hp with
  |cons h1 h2=>
   cases h2
   cases hs:eT d with
   |none=>rw[hs] at e;cases e
   |some es=>
    rw[hs] at e
    cases e
    unfold eT at hs
    split at hs
    ·cases hs
     obtain⟨a,xs,rfl,h1,h2⟩:=AQ h1
     exact⟨a,xs,rfl,.inr h1.1,Fin.new h2 q⟩
    ·cases hs
     obtain⟨a,xs,rfl,h1,h2⟩:=xn h1
     exact⟨a,xs,rfl,.inl h1.sq,Fin.new h2 q⟩
    ·cases hs
 ·cases e
end
end L3
namespace PySem
open Sem (wp)
open AutoSeq1 (wpAny_loadPart')
open Builtin Builtin.Str
section
variable {prog:Program} {w:World} {A:Around} {E:Value→Shared→Prop} {s:Shared}
theorem k9 {it t:Addr} {i:Nat} {items:Array Value} {x:Value} {Q:Value→Shared→Prop} (hit:s.heap.IsTupleIter it t i) (ht:s.heap.IsTuple t items) (hx:items[i]? =some x)
  (hQ:∀h',h'.IsTupleIter it t (i+1)→Heap.SameBut it s.heap h'→Q x {s with heap:=h'}):wpAny (model prog w) A (Builtin.SmallTypes.nextOf (.ref it)) Q E s:=by
 obtain⟨o,ho,hc,hd⟩:=id hit
 obtain⟨ol,hol,_,nl,hdl⟩:=ht
 unfold Builtin.SmallTypes.nextOf
 refine wpAny_bind (wpAny_callSpecial?_slot (name:=Str.ofString "__next__") hit.typeIs F.slot_tuple_iterator_next
  (wpAny_call_entry F.slot_tuple_iterator_next hit.typeIs F.entry_tuple_iterator_next ?_ (F.args_tuple_iterator_next_1 _)))
 show wpAny _ _ (field (.ref it) 0>>=_) _ _ s
 refine wpAny_bind (wpAny_field ho hd (x:= .ref t) rfl ?_)
 show wpAny _ _ (if(Value.ref t==Value.none)=true then _ else _) _ _ s
 rw[if_neg (show¬((Value.ref t==Value.none)=true) from Bool.false_ne_true)]
 show wpAny _ _ (field (.ref it) 1>>=_) _ _ s
 refine wpAny_bind (wpAny_field ho hd (x:= .int i 0) rfl ?_)
 show wpAny _ _ (seqItems? (.ref t)>>=_) _ _ s
 refine wpAny_bind (wpAny_seqItems hol hdl ?_)
 simp only[Int.toNat_natCast,hx]
 refine wpAny_bind (wpAny_setField ho hd (by simp) (wpAny_pure ⟨x,rfl,wpAny_pure (hQ _ ?_ (Heap.SameBut.update ..))⟩))
 exact⟨_,Heap.get?_update_self _ ho (Obj.isFreed_of_fields (Obj.data_mapFields hd _)),(Obj.cls_mapFields ..).trans hc,by
  rw[Obj.data_mapFields hd];simp[rawInt]⟩
theorem lY {it t:Addr} {i:Nat} {items:Array Value} {Q:Value→Shared→Prop} (hh:A.handled=none) (hit:s.heap.IsTupleIter it t i) (ht:s.heap.IsTuple t items) (hx:items[i]? =none)
  (hE:∀h' e,Heap.ExtBut it s.heap h'→(∃o,h'.get? e=some o∧o.cls= .type "StopIteration")→E (.ref e) {s with heap:=h'}):wpAny (model prog w) A (Builtin.SmallTypes.nextOf (.ref it)) Q E s:=by
 obtain⟨o,ho,hc,hd⟩:=id hit
 obtain⟨ol,hol,_,nl,hdl⟩:=ht
 unfold Builtin.SmallTypes.nextOf
 refine wpAny_bind (wpAny_callSpecial?_slot (name:=Str.ofString "__next__") hit.typeIs F.slot_tuple_iterator_next
  (wpAny_call_entry F.slot_tuple_iterator_next hit.typeIs F.entry_tuple_iterator_next ?_ (F.args_tuple_iterator_next_1 _)))
 show wpAny _ _ (field (.ref it) 0>>=_) _ _ s
 refine wpAny_bind (wpAny_field ho hd (x:= .ref t) rfl ?_)
 show wpAny _ _ (if(Value.ref t==Value.none)=true then _ else _) _ _ s
 rw[if_neg (show¬((Value.ref t==Value.none)=true) from Bool.false_ne_true)]
 show wpAny _ _ (field (.ref it) 1>>=_) _ _ s
 refine wpAny_bind (wpAny_field ho hd (x:= .int i 0) rfl ?_)
 show wpAny _ _ (seqItems? (.ref t)>>=_) _ _ s
 refine wpAny_bind (wpAny_seqItems hol hdl ?_)
 simp only[Int.toNat_natCast,hx]
 refine wpAny_bind (wpAny_rule (wpAny_bind (wpAny_setField ho hd (by simp) ?_)))
 show wpAny _ _ (newExc (.type "StopIteration") []>>=_) _ _ _
 refine wpAny_bind ?_
 simp only[newExc,newTuple]
 refine wpAny_bind (wpAny_newObj_type ?_ (by size_fits))
 refine wpAny_bind (m:=firstArgMember _ _) (wpAny_of_eq (a:=Value.none) (by first|rfl|(simp only[firstArgMember];rfl)) ?_)
 refine wpAny_newObj_type ?_ (by size_fits)
 simp only[raiseNew]
 refine wpAny_bind (wpAny_handled ?_)
 first|rw[show A.in1.handled=none from hh]|rw[hh]
 refine wpAny_bind (wpAny_pure (wpAny_throw ?_))
 exact hE _ _ (((Heap.SameBut.update ..).extBut.push _).push _) ⟨_,Heap.get?_push_size _ rfl,rfl⟩
end
set_option maxHeartbeats 4000000 in
section
variable {prog:Program} {w:World} {A:Around} {E:Value→Shared→Prop} {s:Shared}
end
end PySem
namespace L3
open PySem PySem.Spec PyProof.Rows L2
theorem BR {X:Cx} {pins:List (Addr×Obj)} {σ:L2.St} {H:Hp} {s:Shared} {a:Addr} {xs ys:List V} (I:Inv X pins σ H s) (h1:SqT X.K H a xs) (h2:SqT X.K H a ys):xs=ys:=by
 obtain⟨its,r1,⟨o,e1,_,n,d1⟩,_⟩:=I.tuple h1
 obtain⟨its2,r2,⟨o2,e2,_,n2,d2⟩,_⟩:=I.tuple h2
 rw[e1] at e2
 cases e2
 rw[d1] at d2
 have:its=its2:=by
  have q:its.toArray=its2.toArray:=by injection d2
  simpa using q
 subst this
 exact r1.inj r2
section
variable {K:PySem.W.Frag} {E:XK} {B O O':b6} {H0 H H':Hp} {σ:L2.St} {ρ ρ':aV} {v:V}
end
theorem zc {bs:List Bool} {its:List Value} (r:Vals (bs.map V.bl) its) {i:Nat} {v:Value} (h:its[i]? =some v):∃b,bs[i]? =some b∧v= .bool b:=by
 have hl:=r.length
 rw[List.length_map] at hl
 have hi:i<bs.length:=by rw[hl];exact(List.getElem?_eq_some_iff.mp h).1
 obtain⟨u,hu,ru⟩:=r.get (i:=i) (x:= .bl bs[i]) (by rw[List.getElem?_map,List.getElem?_eq_getElem hi];rfl)
 rw[h] at hu
 cases hu
 exact⟨bs[i],List.getElem?_eq_getElem hi,ru⟩
theorem vQ (bs:List Bool):((List.range bs.length).all fun i=>(bs[i]?).getD true)=bs.all id:=by
 rw[Bool.eq_iff_iff,List.all_eq_true,List.all_eq_true]
 constructor
 ·intro h b hb
  obtain⟨i,hi,e⟩:=List.mem_iff_getElem.mp hb
  have:=h i (List.mem_range.mpr hi)
  rw[List.getElem?_eq_getElem hi,e] at this
  exact this
 ·intro h i hi
  have hi:=List.mem_range.mp hi
  rw[List.getElem?_eq_getElem hi]
  exact h _ (List.getElem_mem hi)
section
variable {X:Cx}
theorem zC (hc:X.calm=true):CallR X (.builtin "all") (fun xs H Q=>∃(p:Addr) (bs:List Bool),xs=[.ref p]∧SqL X.K H p (bs.map V.bl)∧Q (.bl (bs.all id)) H):=by
 intro pins s σ H xs us Q I r h
 obtain⟨l,bs,rfl,hq,q⟩:=h
 obtain⟨u,rfl,ru⟩:=iR r
 cases ru
 obtain⟨its,rv,pl,hz⟩:=I.list hq
 have hlen:=rv.length
 rw[List.length_map] at hlen
 have hlt:l<s.heap.objs.size:=by obtain⟨_,_,e,_⟩:=pl;exact Heap.lt_size e
 refine call_all_walk (wpAny_pyIter_list pl.isList ?_)
 refine⟨s.heap.objs.size,[s.heap.objs.size,l],[s.heap.objs.size],its.toArray.size,_,_,fun i=>(bs[i]?).getD true,rfl,Walks.list (A:=X.A.in1) (I.ok.hd hc) _ l (Nat.ne_of_lt hlt) its.toArray,
  ⟨⟨_,Heap.get?_push_size _ rfl,rfl,rfl⟩,pl.isList.push _⟩,fun i v s' Q' E' hP hQ=> ?_,fun h' tk hk=> ?_⟩
 ·obtain⟨b,e,rfl⟩:=zc rv (i:=i) (v:=v) (by simpa using hP)
  simp only[e,Option.getD_some] at hQ
  exact wpAny_truthy_bool hQ
 ·rw[List.size_toArray,←hlen,vQ]
  refine⟨.bl _,H,I.kept (t':=tk) fun b o e=>hk b o (fun hm=> ?_) (Heap.get?_push_of_some _ e),rfl,q⟩
  rw[List.mem_singleton.mp hm] at e
  exact Nat.lt_irrefl _ (Heap.lt_size e)
end
section
variable {K:PySem.W.Frag}
noncomputable def su:List D→Option (List Bool)
 |[]=>some []
 | .bool b::r=>(su r).map (b::·)
 |_=>none
theorem xj {O:b6} {H:Hp}:∀{xs:List V} {ds:List D} {bs:List Bool},DVs O K H xs ds→su ds=some bs→xs=bs.map V.bl
 |_,_,_,.nil,e=>by cases e;rfl
 |_,_,bs,.cons (vs:=vs) (ds:=r) h t,e=>by
  cases h with
  |bl b=>
   have e':(su r).map (b::·)=some bs:=e
   cases q:su r with
   |none=>rw[q] at e';cases e'
   |some bs'=>
    rw[q] at e'
    cases e'
    rw[xj t q]
    rfl
  |_=>cases e
noncomputable def AX:List D→Option RV
 |[.list ds]=>(su ds).map fun bs=> .fz (.bool (bs.all id))
 |_=>none
theorem E9:BO K (fun xs H Q=>∃(p:Addr) (bs:List Bool),xs=[.ref p]∧SqL K H p (bs.map V.bl)∧Q (.bl (bs.all id)) H) AX:=by
 intro O H xs ds rv Q n hp e q
 unfold AX at e
 split at e
 ·rename_i es
  cases qs:su es with
  |none=>rw[qs] at e;cases e
  |some bs=>
   rw[qs] at e
   cases e
   cases hp with
   |cons h1 h2=>
    cases h2
    obtain⟨a,ys,rfl,h1,h2⟩:=xn h1
    have:=xj h2 qs
    subst this
    exact⟨a,bs,rfl,h1.sq,q.at (.bl _)⟩
 ·cases e
noncomputable def i4:List D→Option (List Int)
 |[]=>some []
 | .int b::r=>(i4 r).map (b::·)
 |_=>none
theorem kS {O:b6} {H:Hp}:∀{xs:List V} {ds:List D} {bs:List Int},DVs O K H xs ds→i4 ds=some bs→xs=bs.map V.int
 |_,_,_,.nil,e=>by cases e;rfl
 |_,_,bs,.cons (vs:=vs) (ds:=r) h t,e=>by
  cases h with
  |int b=>
   have e':(i4 r).map (b::·)=some bs:=e
   cases q:i4 r with
   |none=>rw[q] at e';cases e'
   |some bs'=>
    rw[q] at e'
    cases e'
    rw[kS t q]
    rfl
  |_=>cases e
theorem iQ (ns:List Int):i4 (ns.map .int)=some ns:=by
 induction ns with
 |nil=>rfl
 |cons n r ih=>show(i4 (r.map .int)).map (n::·)=_;rw[ih];rfl
noncomputable def vt (x:Int):List Int→List Int
 |[]=>[x]
 |y::r=>if x≤y then x::y::r else y::vt x r
noncomputable def gH:List Int→List Int
 |[]=>[]
 |x::r=>vt x (gH r)
theorem lV (x:Int):∀l,(vt x l).Perm (x::l)
 |[]=>List.Perm.refl _
 |y::r=>by
  unfold vt
  split
  ·exact List.Perm.refl _
  ·exact((lV x r).cons y).trans (List.Perm.swap x y r)
theorem eR:∀l,(gH l).Perm l
 |[]=>List.Perm.refl _
 |x::r=>(lV x _).trans ((eR r).cons x)
theorem mB (x:Int):∀l:List Int,l.Pairwise (·≤·)→(vt x l).Pairwise (·≤·)
 |[],_=>by simp[vt]
 |y::r,h=>by
  unfold vt
  obtain⟨h1,h2⟩:=List.pairwise_cons.mp h
  split
  ·rename_i hxy
   refine List.pairwise_cons.mpr ⟨fun z hz=> ?_,h⟩
   rcases List.mem_cons.mp hz with e|e
   ·rw[e];exact hxy
   ·have:=h1 z e;omega
  ·rename_i hxy
   refine List.pairwise_cons.mpr ⟨fun z hz=> ?_,mB x r h2⟩
   rcases List.mem_cons.mp ((lV x r).mem_iff.mp hz) with e|e
   ·rw[e];omega
   ·exact h1 z e
theorem eE:∀l,(gH l).Pairwise (·≤·)
 |[]=>List.Pairwise.nil
 |x::r=>mB x _ (eE r)
theorem jK {l m:List Int} (hp:l.Perm m) (hl:l.Pairwise (·≤·)) (hm:m.Pairwise (·≤·)):l=m:=hp.eq_of_pairwise (fun a b _ _ h1 h2=>Int.le_antisymm h1 h2) hl hm
noncomputable def rH:List D→Option RV
 |[.list ds]=>(match i4 ds with
  |some ns=>if ns.length<64 then some (.ow ((gH ns).map .int)) else none
  |none=>none)
 |_=>none
theorem oU {O:b6} {H:Hp} (ns:List Int):DVs O K H (ns.map V.int) (ns.map .int):=by
 induction ns with
 |nil=>exact .nil
 |cons n r ih=>exact .cons (.int n) ih
theorem yz:BO K (fun xs H Q=>∃(p:Addr) (ns:List Int),xs=[.ref p]∧SqL K H p (ns.map V.int)∧ns.length<64∧∀(l:Addr) (ms:List Int),H l=none→ms.Perm ns→ms.Pairwise (·≤·)→Q (.ref l) (bL H l (.lst (ms.map V.int)))) rH:=by
 intro O H xs ds rv Q n hp e q
 unfold rH at e
 split at e
 ·rename_i es
  cases qs:i4 es with
  |none=>rw[qs] at e;cases e
  |some ns=>
   rw[qs] at e
   dsimp only at e
   split at e
   ·rename_i hl
    cases e
    cases hp with
    |cons h1 h2=>
     cases h2
     obtain⟨a,ys,rfl,h1,h2⟩:=xn h1
     have:=kS h2 qs
     subst this
     refine⟨a,ns,rfl,h1.sq,hl,fun l ms hl hp hs=> ?_⟩
     have em:ms=gH ns:=jK (hp.trans (eR ns).symm) hs (eE ns)
     subst em
     exact Fin.new (oU _) q l hl
   ·cases e
 ·cases e
end
end L3
namespace L3
open PySem PySem.Spec PyProof.Rows L2
def Ik (K:PySem.W.Frag) (H:Hp) (x:V) (t:String):Prop:=match x with
 | .non=>t= "NoneType"
 | .bl _=>t= "bool"
 | .int _=>t= "int"
 | .str _=>t= "str"
 | .ref a=>(t= "list"∧∃xs,SqL K H a xs)∨(t= "tuple"∧∃xs,SqT K H a xs)
 |_=>False
def DF (K:PySem.W.Frag):List V→Hp→VK→Prop:=fun xs H Q=>∃x n t b,xs=[x,.ty n]∧Ik K H x t∧PySem.W.kitOne K (.type t) (.type n)=some b∧Q (.bl b) H
theorem rb {X:Cx}:CallR X (.builtin "isinstance") (DF X.K):=by
 intro pins s σ H xs us Q I r h
 obtain⟨x,n,t,b,rfl,ty,e,q⟩:=h
 obtain⟨u,w',rfl,rx,rn⟩:=DQ r
 obtain rfl:w'=Value.type n:=rn
 have fin:∀tk,EP X pins σ Q (.bool b) {s with toks:=tk}:=fun tk=>⟨.bl b,H,I.tok tk,rfl,q⟩
 cases x with
 |non=>cases(show t= "NoneType" from ty);cases(show u=Value.none from rx);exact PySem.W.kia_one PySem.W.kitx_none I.kIn True.intro e (fun z=>nomatch z) fin
 |bl y=>cases(show t= "bool" from ty);cases(show u=Value.bool y from rx);exact PySem.W.kia_one PySem.W.kitx_bool I.kIn True.intro e (fun z=>nomatch z) fin
 |int i=>cases(show t= "int" from ty);obtain⟨t,q⟩:=(show∃t,u=Value.int i t from rx);cases q;exact PySem.W.kia_one PySem.W.kitx_int I.kIn True.intro e (fun z=>nomatch z) fin
 |str y=>cases(show t= "str" from ty);obtain⟨t,q⟩:=(show∃t,u=Value.str y t from rx);cases q;exact PySem.W.kia_one PySem.W.kitx_str I.kIn True.intro e (fun z=>nomatch z) fin
 |ref a=>
  cases(show u=Value.ref a from rx)
  rcases ty with⟨rfl,xs,h⟩|⟨rfl,xs,h⟩
  ·obtain⟨its,r,⟨o,k,h1,h2,_⟩,_⟩:=I.list h
   exact PySem.W.kia_one PySem.W.kitx_list I.kIn ⟨_,h1,h2⟩ e (fun z=>nomatch z) fin
  ·obtain⟨its,r,⟨o,h1,h2,_⟩,_⟩:=I.tuple h
   exact PySem.W.kia_one PySem.W.kitx_tuple I.kIn ⟨o,h1,h2⟩ e (fun z=>nomatch z) fin
 |_=>exact(show False from ty).elim
section
variable {K:PySem.W.Frag} {E:XK} {B O O':b6} {H0 H H':Hp} {σ:L2.St} {ρ ρ':aV} {v:V}
noncomputable def zv:D→Option String
 | .none=>some "NoneType"
 | .bool _=>some "bool"
 | .int _=>some "int"
 | .str _=>some "str"
 | .list _=>some "list"
 | .tuple _=>some "tuple"
 | .dict _=>none
noncomputable def CV (n t:String):Bool:=n==t||(n== "int"&&t== "bool")
theorem CN {n t:String} (hn:n= "int"∨n= "bool"∨n= "str"∨n= "list"∨n= "tuple") {d:D} (ht:zv d=some t):PySem.W.kitOne K (.type t) (.type n)=some (CV n t):=by
 cases d<;>(cases ht;try (rcases hn with rfl|rfl|rfl|rfl|rfl<;>rfl))
theorem Gx {x:V} {d:D} {t:String} (h:DX O K H x d) (e:zv d=some t):Ik K H x t:=by
 cases d with
 |none=>cases e;cases h;rfl
 |bool b=>cases e;cases h;rfl
 |int b=>cases e;cases h;rfl
 |str b=>cases e;cases h;rfl
 |dict b=>cases e
 |list ds=>cases e;obtain⟨a,xs,rfl,h1,_⟩:=xn h;exact .inl ⟨rfl,xs,h1.sq⟩
 |tuple ds=>cases e;obtain⟨a,xs,rfl,h1,_⟩:=AQ h;exact .inr ⟨rfl,xs,h1.1⟩
noncomputable def yV (n:String) (fa:FE):FE:=fun ρ=>(fa ρ).bind fun a=>(Res.ofO (vh a.2 a.1)).bind fun d=>(Res.ofO (zv d)).bind fun t=> .ok (.fz (.bool (CV n t)),a.2)
theorem zq {n:String} {ta:TE} {fa:FE} (hn:n= "int"∨n= "bool"∨n= "str"∨n= "list"∨n= "tuple") (ha:EO K E ta fa):EO K E (CG (DF K) (j5 ta (j5 (tC (.ty n)) pp))) (yV n fa):=by
 intro B H0 O σ H ρ Q R w
 refine ha B H0 O σ H ρ _ R (w.bind.imp fun a w1 O1 x H1 e1 R1 p1=> ?_)
 obtain⟨d,q,w1⟩:=w1.ofO
 obtain⟨t,qt,w1⟩:=w1.ofO
 exact⟨x,n,t,CV n t,rfl,Gx (mn R1 p1 q) qt,CN hn qt,w1 O1 _ H1 e1 R1 (.bl _)⟩
end
section
variable {K:PySem.W.Frag}
end
theorem yK {P:Program} {w:World} {K:PySem.W.Frag} {mg mb:Str→Option Value} {k:Nat} {fa a:Addr} {fd:FuncData} {x:Str} {F:FN} {s₁:Shared} {vs:List Value} {ns:List Int}
  (KX:K.In s₁.heap) (hns:s₁.heap.Ns mainGlobals mg) (hb:s₁.heap.Ns builtinsNs mb) (hbb:∀x:Str,x≠ "__name__"→mb x=bootBuiltins x) (hlim:s₁.heap.NoLimit) (hg:s₁.gens= #[])
  (ha:s₁.heap.get? a=some {cls:= .type "list",data:= .seq vs.toArray}) (hi:IntsAre vs ns) (hl:ns.length≤sizeLine) (hr:Room k callerA)
  (FF:∀base:Heap,K.In base→base.Ns mainGlobals mg→FnOk P w K mg base dR k fa fd [x] (qu K 1 F)) (hbind:∀(s:Shared) (u:Value),BindsTo s fd ⟨[u],[]⟩ [(x,u)])
  (hF:F [.list (ns.map .int)]= .ok (.fz (.bool true))):
  codeAny (model P w) callerA (.call (.ref fa) ⟨[.ref a],[]⟩) (fun r s'=>r= .ok (.ret (.bool true))∧OldK s₁.heap s'.heap∧s'.os=s₁.os∧AllBare s'.gens) s₁:=by
 refine Bf (sp:=fun vs H Q E=>qu K 1 F vs H Q E∨(vs.length=1∧False)) KX hns hb hbb hlim hg ha hi hl hr (fun base k1 k2=>(FF base k1 k2).imp fun vs H Q E h=> ?_) hbind (fun H hO hS=> ?_) fun _ _ _ h=>h
 ·rcases h with h|h
  ·exact h
  ·exact h.2.elim
 ·refine .inl ⟨rfl,noO,[.list (ns.map .int)],fun a z=>z.elim,.cons (.lst ⟨?_,fun z=>z.elim⟩ (oU ns)) .nil,?_⟩
  ·rcases hS with h|⟨o,its,n,h1,h2,h3,h4,h5,h6⟩
   ·exact .inl h
   ·have e:=KX a o h1
    rw[ha] at e
    cases e
    cases h4
    exact .inr ⟨vs,0,h1,by rw[List.length_map];exact hl,by simpa using h6⟩
  ·rw[hF]
   exact fun v H' s dv=>by cases dv;rfl
theorem Gv {l:PySem.W.OpenLaw} {n k:Nat} {q:Program} {loose:List Str} {XP:(Str→Option Value)→Heap→Prop} {YP:World→Heap→Prop} {d:DefRec} {K:Params→PySem.W.Frag} {F:FN} {x:Str}
  (hn:l.most=some n) (hn2:n≤sizeLine) (hdf:d.params.defaults=[]) (hr:Room k callerA)
  (hY:∀(w:World) (h:Heap),YP w h→(K w.params).In h)
  (FF:∀(w:World) (mg:Str→Option Value) (fa:Addr) (h:Heap),(K w.params).In h→h.Ns mainGlobals mg→mg d.name=some (.ref fa)→
   ∃fd:FuncData,(∀(s:Shared) (u:Value),BindsTo s fd ⟨[u],[]⟩ [(x,u)])∧∀base:Heap,(K w.params).In base→base.Ns mainGlobals mg→FnOk l.prog w (K w.params) mg base dR k fa fd [x] (qu (K w.params) 1 F))
  (hF:∀ns:List Int,ns.length≤n→F [.list (ns.map .int)]= .ok (.fz (.bool true))):
  PySem.W.WalkO q loose XP YP l.row.toRowW d [] (fun f vs=>PySem.call f vs):=by
 refine Att.attach_call hn hdf fun w s₀ s₁ mg mb fa o pm cd doc a vs ns G Y ho hd hcd hmg hobj hints hlen hg=> ?_
 have KX:=hY w _ Y
 obtain⟨fd,hb,hFF⟩:=FF w mg fa _ KX G.T.g hmg
 exact yK KX G.T.g G.T.b G.T.builtins G.T.nolimit hg hobj hints (Nat.le_trans hlen hn2) hr hFF hb (hF ns hlen)
theorem C4 {P:Program} {w:World} {K:PySem.W.Frag} {mg:Str→Option Value} {base:Heap} {x qual:Str} {st:Stmt} {f:Addr} {fd:FuncData} {N ps:List Str} {k n m:Nat} {g:FS} {FF:FN} (F:Fun K x qual st f fd) (S:FnScope N ps (ag st)) (hn:ps.length=n) (hm:N.length=m) (hF:FF=iJ m g)
  (hbody:∀(cdv:Value) (A:Around) (outer:List Env) (s:Shared) (H:Hp) (E:XK),Room k (A.deeper (PyProof.Rows.envOfC qual (ag st) s.heap.objs.size f cdv))→
   ∃t,PSs (se dR P w K mg base N qual (ag st) f cdv A outer s H E).nox (a9 st) t∧SO K E t g):FnOk P w K mg base dR (k+1) f fd ps (qu K n FF):=by
 subst hF hm
 exact Im F S hn hbody
noncomputable abbrev gn (P:Program) (w:World) (K:PySem.W.Frag) (mg:Str→Option Value) (base:Heap) (k:Nat) (x:Str) (ps:List Str) (n:Nat) (F:FN):Prop:=Bw P w K mg base k x ps (qu K n F)
end L3
namespace L3
open PySem L2
noncomputable abbrev nd (n:Nat):D:= .int (n:Int)
noncomputable def b3 (ns:List Nat):List D:=ns.map nd
theorem gC (ns:List Nat):(b3 ns).length=ns.length:=by unfold b3;rw[List.length_map]
theorem C3 (xs ys:List Nat):b3 (xs++ys)=b3 xs++b3 ys:=by unfold b3;rw[List.map_append]
theorem xt {ns:List Nat} {i:Nat} {d:D} (h:(b3 ns)[i]? =some d):∃n,ns[i]? =some n∧d=nd n:=by
 unfold b3 at h
 rw[List.getElem?_map] at h
 cases e:ns[i]? with
 |none=>rw[e] at h;cases h
 |some n=>rw[e] at h;exact⟨n,rfl,(Option.some.inj h).symm⟩
theorem bh {α:Type} (a:α):Res.ofO (some a)= .ok a:=rfl
theorem uv {α:Type} (a:α):pE (Res.ok a)= .ok a:=rfl
theorem vH (i:Nat) (ρ:aV):ah i ρ=wQ ρ i ρ[i]? :=rfl
theorem A1 (ρ:aV) (i:Nat) (d:D):wQ ρ i (some (some (.fz d)))= .ok (.fz d,ρ):=rfl
theorem Ad (ρ:aV) (i:Nat) (ds:List D):wQ ρ i (some (some (.ow ds)))= .ok (.pl i,ρ):=rfl
theorem lQ (ds:List D):Bo (some (some (.ow ds)))=some ds:=rfl
theorem Bu (i:Nat) (d:D) (ρ:aV):gN i (.fz d) ρ= .ok (ρ.set i (some (.fz d))):=rfl
theorem xx (i:Int):HB (.int i)=some i:=rfl
theorem uN (b:Bool):HF (.bool b)=some b:=rfl
theorem kK (ds:List D):h7 [.tuple ds]=some (.fz (nd ds.length)):=rfl
theorem pG (ds:List D):h7 [.list ds]=some (.fz (nd ds.length)):=rfl
theorem tj (i j:Int):HU (.int i) (.int j)=some (.fz (.bool (decide (i<j)))):=rfl
theorem DN (i j:Int):Gc (.int i) (.int j)=some (.fz (.bool (decide (j<i)))):=rfl
theorem ky (i j:Int):eW (.int i) (.int j)=some (.fz (.int (i+j))):=rfl
theorem wl (i j:Int):sW (.int i) (.int j)=some (.fz (.int (i - j))):=rfl
theorem oj {i j:Int} (h:0<j):lM (.int i) (.int j)=some (.fz (.int (i % j))):=by
 show(if Eu i j=true then _ else _)=_
 rw[if_pos (show Eu i j=true from decide_eq_true h)]
theorem vY {i j:Int} (h:0<j∧j<2^128):u6 (.int i) (.int j)=some (.fz (.int (i/j))):=by
 show(if EZ i j=true then _ else _)=_
 rw[if_pos (show EZ i j=true from decide_eq_true h)]
theorem B1 {i j:Int} (h: -(2^64)<i∧i<2^64):yo (.int i) (.int j)=some (.fz (.int (i*j))):=by
 show(if(f9 i||f9 j)=true then _ else _)=_
 rw[if_pos (by rw[show f9 i=true from decide_eq_true h,Bool.true_or])]
theorem Dt {i j:Int} (h: -(2^64)<j∧j<2^64):yo (.int i) (.int j)=some (.fz (.int (i*j))):=by
 show(if(f9 i||f9 j)=true then _ else _)=_
 rw[if_pos (by rw[show f9 j=true from decide_eq_true h,Bool.or_true])]
theorem Cj {j:Int} (h:jt j):uy [.int j]=some (fQ 0 j.toNat):=by
 show(if jt j then _ else _)=_
 rw[if_pos h]
theorem zl (n:Nat):fQ 0 n=b3 (List.range n):=by
 unfold fQ b3
 apply List.map_congr_left
 intro k _
 rw[Int.zero_add]
theorem x8 {n:Nat} (h:n≤1000000):uy [nd n]=some (b3 (List.range n)):=by
 rw[Cj (by unfold jt;omega),zl,Int.toNat_natCast]
theorem zw {f g:FS} {ρ ρ1:aV} (h:f ρ= .ok (.nx ρ1)):dZ f g ρ=g ρ1:=by unfold dZ;rw[h];rfl
theorem Am {f g:FS} {ρ:aV} {rv:RV} (h:f ρ= .ok (.rt rv)):dZ f g ρ= .ok (.rt rv):=by unfold dZ;rw[h];rfl
theorem HJ {c:FT} {f g:FS} {ρ ρ1:aV} (h:c ρ= .ok (true,ρ1)):pO c f g ρ=f ρ1:=by unfold pO;rw[h];rfl
theorem HE {c:FT} {f g:FS} {ρ ρ1:aV} (h:c ρ= .ok (false,ρ1)):pO c f g ρ=g ρ1:=by unfold pO;rw[h];rfl
theorem vJ {fi:FI} {gt:FG} {b:FS} {ρ ρ1:aV} {ds:List D} (h:fi ρ= .ok (ds,ρ1)):sd fi gt b ρ=mP gt b ds ρ1:=by unfold sd;rw[h];rfl
noncomputable def jd (gt:FG) (ft:FT) (fe:FE) (d:D) (ρ:aV):Res (Option D×aV):=(gt (.fz d) ρ).bind fun ρ1=>(ft ρ1).bind fun b=>if b.1=true then(fe b.2).bind fun a=>(Res.ofO (ui a.2 a.1)).bind fun x=> .ok (some x.1,dF x.2) else .ok (none,dF b.2)
theorem oT {gt:FG} {ft:FT} {fe:FE} {d:D} {r:List D} {ρ ρ':aV} {acc:List D} {o:Option D} (h:jd gt ft fe d ρ= .ok (o,ρ')) (hl:acc.length<1000000):eZ gt ft fe (d::r) ρ acc=eZ gt ft fe r ρ' (acc++o.toList):=by
 unfold jd at h
 show(gt (.fz d) ρ).bind _=_
 cases q1:gt (.fz d) ρ with
 |er x=>rw[q1] at h;cases h
 |bad=>rw[q1] at h;cases h
 |ok ρ1=>
  rw[q1,Res.bind_ok] at h
  rw[Res.bind_ok]
  cases q2:ft ρ1 with
  |er x=>rw[q2] at h;cases h
  |bad=>rw[q2] at h;cases h
  |ok b=>
   obtain⟨b,ρ2⟩:=b
   rw[q2,Res.bind_ok] at h
   rw[Res.bind_ok]
   cases b with
   |false=>
    rw[if_neg Bool.false_ne_true] at h⊢
    cases h
    rw[Option.toList_none,List.append_nil]
   |true=>
    rw[if_pos rfl] at h⊢
    cases q3:fe ρ2 with
    |er x=>rw[q3] at h;cases h
    |bad=>rw[q3] at h;cases h
    |ok a=>
     rw[q3,Res.bind_ok] at h
     rw[Res.bind_ok]
     cases q4:ui a.2 a.1 with
     |none=>rw[q4] at h;cases h
     |some x=>
      rw[q4] at h
      cases h
      show(if acc.length<1000000 then _ else _)=_
      rw[if_pos hl]
      rfl
theorem Ef (a b:Nat):decide ((a:Int)=(b:Int))=decide (a=b):=by
 by_cases h:a=b
 ·rw[decide_eq_true h,decide_eq_true (by rw[h])]
 ·rw[decide_eq_false h,decide_eq_false (by omega)]
theorem zP (a b:Nat):PyData.eqv (nd a) (nd b)=decide (a=b):=Ef a b
theorem mX (a b:Int):dE (.int a) (.int b)=some (.fz (.bool (decide (a=b)))):=by
 rfl
theorem kI (a b:Int):mG (.int a) (.int b)=some (.fz (.bool (!decide (a=b)))):=by
 rfl
theorem jP:∀ns:List Nat,PyData.canLayAll0 (b3 ns)=true
 |[]=>rfl
 |n::r=>by
  show(PyData.canLay0 (nd n)&&PyData.canLayAll0 (b3 r))=true
  rw[jP r];rfl
theorem nr:∀ns:List Nat,PyData.depthAll (b3 ns)=0
 |[]=>rfl
 |n::r=>by
  show max (PyData.depth (nd n)) (PyData.depthAll (b3 r))=0
  rw[nr r];rfl
theorem wO:∀xs ys:List Nat,PyData.eqvAll (b3 xs) (b3 ys)=decide (xs=ys)
 |[],[]=>rfl
 |[],_::_=>rfl
 |_::_,[]=>rfl
 |n::r,m::t=>by
  show(PyData.eqv (nd n) (nd m)&&PyData.eqvAll (b3 r) (b3 t))=_
  rw[wO r t,zP]
  rw[Bool.eq_iff_iff]
  simp
theorem FU (ns:List Nat):iL (.list (b3 ns))=true:=by
 show(PyData.canLayAll0 (b3 ns)&&decide (PyData.depthAll (b3 ns)+1≤64))=true
 rw[jP,nr];rfl
theorem sH (xs ys:List Nat):dE (.list (b3 xs)) (.list (b3 ys))=some (.fz (.bool (decide (xs=ys)))):=by
 unfold dE
 rw[FU,show PyData.canLay0 (.list (b3 ys))=true from jP ys,Bool.and_self,if_pos rfl,show PyData.eqv (.list (b3 xs)) (.list (b3 ys))=_ from wO xs ys]
theorem CY (x:Nat) (xs:List Nat):((b3 xs).any fun e=>PyData.eqv e (nd x))=decide (x∈xs):=by
 induction xs with
 |nil=>rfl
 |cons y r ih=>
  show(PyData.eqv (nd y) (nd x)||(b3 r).any fun e=>PyData.eqv e (nd x))=_
  rw[ih,zP]
  by_cases h:y=x
  ·rw[decide_eq_true h,decide_eq_true (show x∈y::r by rw[h];exact List.mem_cons_self),Bool.true_or]
  ·rw[decide_eq_false h,Bool.false_or]
   by_cases g:x∈r
   ·rw[decide_eq_true g,decide_eq_true (List.mem_cons_of_mem _ g)]
   ·rw[decide_eq_false g,decide_eq_false (fun z=>(List.mem_cons.mp z).elim (fun e=>h e.symm) g)]
theorem rL (x:Nat) (xs:List Nat):Cd (nd x) (.tuple (b3 xs))=some (.fz (.bool (decide (x∈xs)))):=by
 show(if(iL (nd x)&&PyData.canLayAll0 (b3 xs))=true then _ else _)=_
 rw[jP,show iL (nd x)=true from rfl,Bool.and_self,if_pos rfl,CY]
theorem AJ {α:Type} {xs:List α} {i:Nat} {v:α} (h:xs[i]? =some v):l8 xs (i:Int)=some v:=xg h
theorem F7 {ds:List D} {i:Nat} {d:D} (h:ds[i]? =some d):bH (.tuple ds) (nd i)=some (.fz d):=by
 show(l8 ds (i:Int)).map RV.fz=_
 rw[AJ h];rfl
theorem Io {ds:List D} {i:Nat} {d:D} (h:ds[i]? =some d):bH (.list ds) (nd i)=some (.fz d):=by
 show(l8 ds (i:Int)).map RV.fz=_
 rw[AJ h];rfl
end L3
namespace L3
open PySem L2
section
variable {ρ ρ1 ρ2 ρ3:aV} {fa fb fc fe:FE} {pa pb pv:PV} {dx dy d:D} {rv:RV} {ps:List PV} {ds:List D}
theorem ar {i:Nat} (h:ρ[i]? =some (some (.fz d))):ah i ρ= .ok (.fz d,ρ):=by rw[vH,h,A1]
theorem tf {i:Nat} (h:ρ[i]? =some (some (.ow ds))):ah i ρ= .ok (.pl i,ρ):=by rw[vH,h,Ad]
theorem bC:pC d ρ= .ok (.fz d,ρ):=rfl
theorem bQ {f:D→D→Option RV} (ha:fa ρ= .ok (pa,ρ1)) (hb:fb ρ1= .ok (pb,ρ2)) (hx:vh ρ2 (dM pa)=some dx) (hy:vh ρ2 pb=some dy) (hf:f dx dy=some rv):aY f fa fb ρ= .ok (rv.pv,ρ2):=by
 unfold aY
 rw[ha,Res.bind_ok,hb,Res.bind_ok,hx,bh,Res.bind_ok,hy,bh,Res.bind_ok,hf,bh,Res.bind_ok]
theorem eC {b:Bool} (ha:fa ρ= .ok (pa,ρ1)) (hx:vh ρ1 pa=some (.bool b)):aW fa ρ= .ok (b,ρ1):=by
 unfold aW
 rw[ha,Res.bind_ok,hx,bh,Res.bind_ok,uN,bh,Res.bind_ok]
theorem CO {f g:FT} {a b:Bool} (ha:f ρ= .ok (a,ρ1)) (hb:a=true→g ρ1= .ok (b,ρ1)):y4 f g ρ= .ok (a&&b,ρ1):=by
 unfold y4
 rw[ha,Res.bind_ok]
 cases a with
 |true=>rw[if_pos rfl,hb rfl,Bool.true_and]
 |false=>rw[if_neg Bool.false_ne_true,Bool.false_and]
theorem sZ {f:FT} {a:Bool} (ha:f ρ= .ok (a,ρ1)):zd f ρ= .ok (!a,ρ1):=by
 unfold zd
 rw[ha,Res.bind_ok]
theorem cP:aJ ρ= .ok ([],ρ):=rfl
theorem bp {fr:FA} (ha:fa ρ= .ok (pa,ρ1)) (hr:fr ρ1= .ok (ps,ρ2)):ap fa fr ρ= .ok (dM pa::ps,ρ2):=by
 unfold ap
 rw[ha,Res.bind_ok,hr,Res.bind_ok]
theorem iH {f:List D→Option RV} {fr:FA} (ha:fr ρ= .ok (ps,ρ1)) (hd:uF ρ1 ps=some ds) (hf:f ds=some rv):iU f fr ρ= .ok (rv.pv,ρ1):=by
 unfold iU
 rw[ha,Res.bind_ok,hd,bh,Res.bind_ok,hf,bh,Res.bind_ok]
theorem kq {F:FN} {n:Nat} {fr:FA} (ha:fr ρ= .ok (ps,ρ1)) (hd:mV ρ1 ps=some (ds,ρ2)) (hn:ds.length=n) (hF:F ds= .ok rv):gL F n fr ρ= .ok (rv.pv,ρ2):=by
 unfold gL
 rw[ha,Res.bind_ok,hd,bh,Res.bind_ok]
 dsimp only
 rw[if_pos hn,hF,uv,Res.bind_ok]
theorem l4 {fr:FA} (ha:fr ρ= .ok (ps,ρ1)) (hd:mV ρ1 ps=some (ds,ρ2)) (hn:ds.length≤1000):c8 fr ρ= .ok (.fz (.tuple ds),ρ2):=by
 unfold c8
 rw[ha,Res.bind_ok,hd,bh,Res.bind_ok]
 dsimp only
 rw[if_pos hn]
theorem sG {fr:FA} (ha:fr ρ= .ok (ps,ρ1)) (hd:mV ρ1 ps=some (ds,ρ2)) (hn:ds.length≤1000):dG fr ρ= .ok (.ow ds,ρ2):=by
 unfold dG
 rw[ha,Res.bind_ok,hd,bh,Res.bind_ok]
 dsimp only
 rw[if_pos hn]
theorem vp {n t:String} (ha:fa ρ= .ok (pa,ρ1)) (hx:vh ρ1 pa=some dx) (ht:zv dx=some t):yV n fa ρ= .ok (.fz (.bool (CV n t)),ρ1):=by
 unfold yV
 rw[ha,Res.bind_ok,hx,bh,Res.bind_ok,ht,bh,Res.bind_ok]
theorem uW {i:Int} (ha:fa ρ= .ok (pa,ρ1)) (hx:vh ρ1 pa=some (.int i)):qL fa ρ= .ok (some i,ρ1):=by
 unfold qL
 rw[ha,Res.bind_ok,hx,bh,Res.bind_ok,xx,bh,Res.bind_ok]
theorem DH {f:D→Option Int→Option Int→Option RV} {fl fh:FO} {lo hi:Option Int} (ha:fa ρ= .ok (pa,ρ1)) (hl:fl ρ1= .ok (lo,ρ2)) (hh:fh ρ2= .ok (hi,ρ3)) (hx:vh ρ3 (dM pa)=some dx) (hf:f dx lo hi=some rv):GN f fa fl fh ρ= .ok (rv.pv,ρ3):=by
 unfold GN
 rw[ha,Res.bind_ok,hl,Res.bind_ok,hh,Res.bind_ok,hx,bh,Res.bind_ok,hf,bh,Res.bind_ok]
theorem wB {i:Nat} {es:List D} {x:aV} (h0:ρ[i]? =some (some (.ow es))) (ha:fe ρ= .ok (pa,ρ1)) (ht:ui ρ1 pa=some (d,ρ2)) (h1:ρ2[i]? =some (some (.ow ds))) (hl:ds.length<1000000) (hx:ρ2.set i (some (.ow (ds++[d])))=x):yM i fe ρ= .ok (.fz .none,x):=by
 unfold yM
 rw[h0,lQ,bh,Res.bind_ok,ha,Res.bind_ok,ht,bh,Res.bind_ok]
 dsimp only
 rw[h1,lQ,bh,Res.bind_ok,if_pos hl,hx]
theorem jI {n:Nat} {fv:List Nat} {fi:FI} {gt:FG} {ft:FT} {cs xs:List D} (hi:fi ρ= .ok (ds,ρ1)) (hc:qj ρ1 fv=some (cs,ρ2)) (hp:pE (eZ gt ft fe ds (List.replicate n none++cs.map fun d=>some (.fz d)) [])= .ok xs):iB n fv fi gt ft fe ρ= .ok (.ow xs,ρ2):=by
 unfold iB
 rw[hi,Res.bind_ok]
 dsimp only
 rw[hc,bh,Res.bind_ok]
 dsimp only
 rw[hp,Res.bind_ok]
theorem ET {c:FT} (hc:c ρ= .ok (true,ρ1)) (h:fa ρ1= .ok (pv,ρ2)):EX c fa fb ρ= .ok (pv,ρ2):=by
 unfold EX
 rw[hc,Res.bind_ok,if_pos rfl,h]
theorem Fc {c:FT} (hc:c ρ= .ok (false,ρ1)) (h:fb ρ1= .ok (pv,ρ2)):EX c fa fb ρ= .ok (pv,ρ2):=by
 unfold EX
 rw[hc,Res.bind_ok,if_neg Bool.false_ne_true,h]
theorem iK {a:D} {r:List D}:bH (.tuple (a::r)) (.int 0)=some (.fz a):=F7 (i:=0) rfl
theorem hX {a b:D} {r:List D}:bH (.tuple (a::b::r)) (.int 1)=some (.fz b):=F7 (i:=1) rfl
theorem pM {a b c:D} {r:List D}:bH (.tuple (a::b::c::r)) (.int 2)=some (.fz c):=F7 (i:=2) rfl
theorem Fr {xs:List D} {k:Nat} (h1:k≤1000) (h2:xs.length≤1000):yo (.list xs) (nd k)=some (.ow (List.replicate k xs).flatten):=by
 show(if xs.length*((k:Nat):Int).toNat≤1000000∧ -(2^63)≤(k:Int)∧(k:Int)<2^63 then some (RV.ow (List.replicate ((k:Nat):Int).toNat xs).flatten) else none)=_
 rw[Int.toNat_natCast,if_pos ⟨Nat.le_trans (Nat.mul_le_mul h2 h1) (by decide),by omega,by omega⟩]
theorem kM {es:List D} (ha:fe ρ= .ok (pa,ρ1)) (ht:ui ρ1 pa=some (d,ρ2)) (hs:eT d=some es):kb fe ρ= .ok (es,ρ2):=by
 unfold kb
 rw[ha,Res.bind_ok,ht,bh,Res.bind_ok]
 dsimp only
 rw[hs,bh,Res.bind_ok]
theorem Ch {f:List D→Option (List D)} {fr:FA} {es:List D} (ha:fr ρ= .ok (ps,ρ1)) (hd:uF ρ1 ps=some ds) (hf:f ds=some es):yQ f fr ρ= .ok (es,ρ1):=by
 unfold yQ
 rw[ha,Res.bind_ok,hd,bh,Res.bind_ok,hf,bh,Res.bind_ok]
theorem vO {g:FG} (he:fe ρ= .ok (pv,ρ1)) (hg:g pv ρ1= .ok ρ2) (hn:ρ2=ρ3):jU fe g ρ= .ok (.nx ρ3):=by
 unfold jU
 rw[he,Res.bind_ok]
 dsimp only
 rw[hg,Res.bind_ok,hn]
theorem xJ (he:fe ρ= .ok (pv,ρ1)):pF fe ρ= .ok (.nx ρ1):=by
 unfold pF
 rw[he,Res.bind_ok]
theorem tD (he:fe ρ= .ok (pv,ρ1)) (hr:yT ρ1 pv=some rv):fX fe ρ= .ok (.rt rv):=by
 unfold fX
 rw[he,Res.bind_ok]
 dsimp only
 rw[hr,bh,Res.bind_ok]
theorem BT {gt:FG} {ft:FT} {x:D} (hg:gt (.fz d) ρ= .ok ρ1) (ht:ft ρ1= .ok (true,ρ2)) (he:fe ρ2= .ok (pv,ρ3)) {ρ4 ρ5:aV} (hx:ui ρ3 pv=some (x,ρ4)) (hf:dF ρ4=ρ5):jd gt ft fe d ρ= .ok (some x,ρ5):=by
 unfold jd
 rw[hg,Res.bind_ok,ht,Res.bind_ok,if_pos rfl,he,Res.bind_ok,hx,bh,Res.bind_ok,hf]
theorem Gj {gt:FG} {ft:FT} (hg:gt (.fz d) ρ= .ok ρ1) (ht:ft ρ1= .ok (false,ρ2)) {ρ5:aV} (hf:dF ρ2=ρ5):jd gt ft fe d ρ= .ok (none,ρ5):=by
 unfold jd
 rw[hg,Res.bind_ok,ht,Res.bind_ok,if_neg Bool.false_ne_true,hf]
end
end L3
namespace PySem
open Sem (wp)
open Builtin
open AutoSeq1 (wpAny_loadPart')
theorem lx:fillsNumberSlot (.type "tuple") "mul"=pure false:=
 fillsNumberSlot_seq (id:= "tuple.__mul__") (r:=some (.builtin "tuple.__rmul__")) F.slot_tuple_mul.lookup (by decide+kernel) F.slot_tuple_rmul.lookup (by decide+kernel)
theorem sV:seqRepeat? (.type "tuple")=pure (some (.builtin "tuple.__mul__")):=by
 unfold seqRepeat?
 rw[seqSlot_of (T:= "tuple") (name:= "__mul__") (id:= "tuple.__mul__") F.slot_tuple_mul.lookup (by decide+kernel),seqSlot_of (T:= "tuple") (name:= "__rmul__") (id:= "tuple.__rmul__") F.slot_tuple_rmul.lookup (by decide+kernel)]
 rfl
theorem nO (a:Int) (t:Tok) (l:Addr) (items:Array Value) (n:Nat) (dct:Option Addr) (sl:Array (Option Value)):
  Meets (Builtin.«int.__rmul__» ⟨[.int a t,.ref l],[]⟩) (fun _ R s=>s.heap.get? l=some {cls:= .type "tuple",dict:=dct,data:= .seq items n,slots:=sl}∧R (.ok (.ret Value.notImplemented)) s):=
 .of_wp fun prog w A R s h=>by obtain⟨hp,g,d,tk,os⟩:=s;obtain⟨hl,h⟩:=h;wp_walk;exact⟨_,rfl,h⟩
theorem uX (l:Addr) (items:Array Value) (n:Nat) (dct:Option Addr) (sl:Array (Option Value)) (u:Tok):
  Meets (Builtin.«tuple.__mul__» ⟨[.ref l,.int 1 u],[]⟩) (fun _ R s=>s.heap.get? l=some {cls:= .type "tuple",dict:=dct,data:= .seq items n,slots:=sl}∧R (.ok (.ret (Value.ref l))) s):=
 .of_wp fun prog w A R s h=>by
  obtain⟨hp,g,d,tk,os⟩:=s;obtain⟨hl,h⟩:=h
  wp_walk
  exact⟨_,rfl,h⟩
theorem uo (l:Addr) (items:Array Value) (n:Nat) (dct:Option Addr) (sl:Array (Option Value)) (x:Int) (u:Tok) (h1:2≤x) (h2:x≤1000) (hne:items.isEmpty=false) (hz:items.size≤1000):
  Meets (Builtin.«tuple.__mul__» ⟨[.ref l,.int x u],[]⟩) (fun _ R s=>s.heap.get? l=some {cls:= .type "tuple",dict:=dct,data:= .seq items n,slots:=sl}∧R (.ok (.ret (Value.ref s.heap.objs.size))) {s with heap:=s.heap.push {cls:=Value.type "tuple",data:=Data.seq (List.foldl (fun x1 x2=>x1++x2) #[] (List.replicate x.toNat items))},toks:=s.toks}):=
 .of_wp fun prog w A R s h=>by
  obtain⟨hp,g,d,tk,os⟩:=s;obtain⟨hl,h⟩:=h
  have c1:¬(decide (x< -(2^63))||decide (x≥2^63))=true:=by simp;omega
  have c2:(x==1)=false:=by simp;omega
  have c3:decide (x≤0)=false:=by simp;omega
  have c0:(items.isEmpty||x==1)=false:=by rw[hne,c2];rfl
  have c4:(decide (x≤0)||items.isEmpty)=false:=by rw[hne,c3];rfl
  have hmul:(items.size:Int)*x≤1000000:=by
   have:(items.size:Int)*x≤1000*1000:=Int.mul_le_mul (by omega) h2 (by omega) (by omega)
   omega
  have c5:¬(items.size:Int)*x>(2^63 - 1)/8:=by omega
  have c6:¬Tuple.tupleTooMany ((items.size:Int)*x)=true:=by
   unfold Tuple.tupleTooMany
   simp
   have:(sizeLine:Nat)=16777216:=by decide
   omega
  wp_walk
  rw[if_neg c1]
  wp_walk using wpAny_loadPart' hl
  rw[if_neg c5]
  dsimp only
  rw[if_neg c6]
  have hz2:(List.foldl (fun x1 x2=>x1++x2) #[] (List.replicate x.toNat items)).size≤sizeLine:=by
   have f0:∀(m:Nat) (b:Array Value),(List.foldl (fun x1 x2=>x1++x2) b (List.replicate m items)).size=b.size+m*items.size:=by
    intro m
    induction m with
    |zero=>intro b;simp
    |succ m ih=>intro b;rw[List.replicate_succ,List.foldl_cons,ih,Array.size_append,Nat.succ_mul];omega
   rw[f0]
   have h3:x.toNat*items.size≤1000*1000:=Nat.mul_le_mul (by omega) hz
   have:(sizeLine:Nat)=16777216:=by decide
   simp
   omega
  wp_walk
  exact⟨_,rfl,h⟩
end PySem
namespace L3
open PySem PySem.Spec PyProof.Rows L2
def D7 (K:PySem.W.Frag):R2:=fun x y H Q=>∃(a:Addr) (k:Nat) (xs:List V),x= .ref a∧y= .int (k:Int)∧SqT K H a xs∧xs≠[]∧1≤k∧k≤1000∧xs.length≤1000∧
 (k=1→Q (.ref a) H)∧(2≤k→∀p,H p=none→Q (.ref p) (bL H p (.tup (List.replicate k xs).flatten)))
theorem B6 {X:Cx}:OpR X (binaryOp .Mult) (D7 X.K):=by
 intro pins s σ H x y v u Q I rx ry h
 obtain⟨a,k,xs,rfl,rfl,hx,hne,h1,h2,hl,q1,q2⟩:=h
 cases rx
 obtain⟨t,rfl⟩:=ry
 obtain⟨its,r,ht,hz⟩:=I.tuple hx
 obtain⟨⟨cls,dd,data,sl⟩,ho,hc,n,hd⟩:=id ht
 simp only at hc hd
 subst hc hd
 have hlen:=r.length
 refine wpAny_binaryOp_repeat_ref (T:= "tuple") (U:= "int") (by decide) ⟨_,ho,rfl⟩ (fun s'=>typeIs_int s' k t) lx F.fills_int_mul F.slot_int_rmul sV F.slot_int_index.lookup
  (call_meets F.slot_int_rmul (typeIs_int s k t) F.entry_int_rmul (F.args_int_rmul_2 _ _) (nO k t a its.toArray n dd sl) ⟨ho,rfl,⟨_,ho,rfl⟩,?_⟩)
 by_cases hk:k=1
 ·subst hk
  exact call_meets F.slot_tuple_mul ⟨_,ho,rfl⟩ F.entry_tuple_mul (F.args_tuple_mul_2 _ _) (uX a its.toArray n dd sl t) ⟨ho,⟨.ref a,H,I,rfl,q1 rfl⟩⟩
 ·refine call_meets F.slot_tuple_mul ⟨_,ho,rfl⟩ F.entry_tuple_mul (F.args_tuple_mul_2 _ _) (uo a its.toArray n dd sl k t (by omega) (by omega) ?_ (by rw[List.size_toArray];omega)) ⟨ho,?_⟩
  ·cases its with
   |nil=>cases r;exact absurd rfl hne
   |cons y ys=>rfl
  ·have f0:List.foldl (fun x1 x2=>x1++x2) #[] (List.replicate ((k:Nat):Int).toNat its.toArray)=(List.replicate k its).flatten.toArray:=by
    have:=lP its k []
    rw[List.nil_append] at this
    rw[Int.toNat_natCast]
    exact this
   rw[f0]
   refine⟨.ref s.heap.objs.size,_,I.laid (t':=s.toks) (o:= .tup (List.replicate k xs).flatten) (fun b ob q=>Heap.get?_push_of_some _ q) (Nat.le_refl _) ?_,rfl,q2 (by omega) _ (I.hok.fresh (Nat.le_refl _))⟩
   refine⟨?_,_,r.rep k,TupX.new _ _⟩
   rw[wP]
   exact Nat.le_trans (Nat.mul_le_mul h2 hl) (by decide)
def DG (K:PySem.W.Frag):R2:=fun x y H Q=>Bz K x y H Q∨D7 K x y H Q
theorem jF {X:Cx}:OpR X (binaryOp .Mult) (DG X.K):=OpR.or B2 B6
noncomputable def gz:D→D→Option RV
 | .tuple xs,.int k=>if xs≠[]∧1≤k∧k≤1000∧xs.length≤1000 then some (.fz (.tuple (List.replicate k.toNat xs).flatten)) else none
 |d,e=>yo d e
theorem h9 {K:PySem.W.Frag}:pI K (DG K) gz:=by
 intro O H x y dx dy rv Q n hx hy e q
 unfold gz at e
 split at e
 ·rename_i ds k
  split at e
  ·rename_i hc
   cases e
   cases hy
   obtain⟨a,xs,rfl,h1,h2⟩:=AQ hx
   obtain⟨m,rfl⟩:∃m:Nat,k=(m:Int):=⟨k.toNat,by omega⟩
   rw[Int.toNat_natCast] at q
   refine .inr ⟨a,m,xs,rfl,rfl,h1.1,fun z=>hc.1 (h2.ne.mp z),by omega,by omega,by rw[h2.length];exact hc.2.2.2,fun e=> ?_,fun _=>Fin.newT (h2.flat m) n q⟩
   subst e
   have e1:(List.replicate 1 ds).flatten=ds:=by simp
   rw[e1] at q
   exact q.at (.tup h1 h2)
  ·cases e
 ·exact .inl (Dr O H x y dx dy rv Q n hx hy e q)
end L3
namespace PySem
open Sem (wp)
open Builtin Builtin.Str
def itAt:Bool→Heap→Addr→Addr→Nat→Prop
 |true,h,it,a,i=>h.IsTupleIter it a i
 |false,h,it,a,i=>h.IsListIter it a i
def sqAt:Bool→Heap→Addr→Array Value→Prop
 |true,h,a,xs=>h.IsTuple a xs
 |false,h,a,xs=>h.IsList a xs
noncomputable def uO:Bool→String
 |true=> "tuple_iterator"
 |false=> "list_iterator"
theorem itAt.ext {b:Bool} {h h':Heap} {it a c:Addr} {i:Nat} (x:itAt b h it a i) (e:Heap.ExtBut c h h') (n:it≠c):itAt b h' it a i:=by
 cases b with
 |true=>exact Heap.IsTupleIter.extBut x e n
 |false=>exact Heap.IsListIter.extBut x e n
theorem itAt.to {b:Bool} {h h':Heap} {it a:Addr} {i:Nat} (x:itAt b h it a i) (e:∀o,h.get? it=some o→h'.get? it=some o):itAt b h' it a i:=by
 cases b with
 |true=>exact Heap.IsTupleIter.at x e
 |false=>exact Heap.IsListIter.at x e
theorem itAt.live {b:Bool} {h:Heap} {it a:Addr} {i:Nat} (x:itAt b h it a i):∃o,h.get? it=some o∧∀v,o.data≠ .cell v:=by
 cases b with
 |true=>obtain⟨o,ho,_,d⟩:=(show h.IsTupleIter it a i from x);exact⟨o,ho,fun v z=>by rw[d] at z;cases z⟩
 |false=>obtain⟨o,ho,_,d⟩:=(show h.IsListIter it a i from x);exact⟨o,ho,fun v z=>by rw[d] at z;cases z⟩
theorem sqAt.ext {b:Bool} {h h':Heap} {a c:Addr} {xs:Array Value} (x:sqAt b h a xs) (e:Heap.ExtBut c h h') (n:a≠c):sqAt b h' a xs:=by
 cases b with
 |true=>exact Heap.IsTuple.extBut x e n
 |false=>exact Heap.IsList.extBut x e n
theorem sqAt.psh {b:Bool} {h:Heap} {a:Addr} {xs:Array Value} (x:sqAt b h a xs) (o:Obj):sqAt b (h.push o) a xs:=by
 cases b with
 |true=>exact Heap.IsTuple.push x o
 |false=>exact Heap.IsList.push x o
theorem sqAt.lt {b:Bool} {h:Heap} {a:Addr} {xs:Array Value} (x:sqAt b h a xs):a<h.objs.size:=by
 cases b with
 |true=>obtain⟨o,e,_⟩:=(show h.IsTuple a xs from x);exact Heap.lt_size e
 |false=>obtain⟨o,e,_⟩:=(show h.IsList a xs from x);exact Heap.lt_size e
section
variable {prog:Program} {w:World} {A:Around} {E:Value→Shared→Prop} {s:Shared}
theorem rc {b:Bool} {it l:Addr} {i:Nat} {xs:Array Value} {x:Value} {Q:Value→Shared→Prop} (hi:itAt b s.heap it l i) (hl:sqAt b s.heap l xs) (hx:xs[i]? =some x)
  (q:∀h',itAt b h' it l (i+1)→Heap.SameBut it s.heap h'→Q x {s with heap:=h'}):wpAny (model prog w) A (SmallTypes.nextOf (.ref it)) Q E s:=by
 cases b with
 |true=>exact k9 hi hl hx q
 |false=>exact wpAny_nextOf_list_item hi hl hx q
theorem wT {b:Bool} {it l:Addr} {i:Nat} {xs:Array Value} {Q:Value→Shared→Prop} (hh:A.handled=none) (hi:itAt b s.heap it l i) (hl:sqAt b s.heap l xs) (hx:xs[i]? =none)
  (q:∀h' e,Heap.ExtBut it s.heap h'→(∃o,h'.get? e=some o∧o.cls= .type "StopIteration")→E (.ref e) {s with heap:=h'}):wpAny (model prog w) A (SmallTypes.nextOf (.ref it)) Q E s:=by
 cases b with
 |true=>exact lY hh hi hl hx q
 |false=>exact wpAny_nextOf_list_end hh hi hl hx q
theorem w9 {b:Bool} {l:Addr} {xs:Array Value} {Q:Value→Shared→Prop} (hl:sqAt b s.heap l xs)
  (q:Q (.ref s.heap.objs.size) {s with heap:=s.heap.push {cls:= .type (uO b),data:= .fields #[.ref l,.int 0 0]}}):wpAny (model prog w) A (pyIter (.ref l)) Q E s:=by
 cases b with
 |true=>exact wpAny_pyIter_tuple hl q
 |false=>exact wpAny_pyIter_list hl q
theorem yt {z TI TO i1 i2 l1 l2:Addr} {b1 b2:Bool} {n:Nat} {xs ys:Array Value} {x y a b:Value} {Q:Value→Shared→Prop} (D:ZipApart z TI TO i1 i2 l1 l2) (hz:IsZip s.heap z TI TO .none)
  (hTI:IsPair s.heap TI (.ref i1) (.ref i2)) (hTO:IsPair s.heap TO a b) (h1:itAt b1 s.heap i1 l1 n) (h2:itAt b2 s.heap i2 l2 n) (hl1:sqAt b1 s.heap l1 xs) (hl2:sqAt b2 s.heap l2 ys) (hx:xs[n]? =some x) (hy:ys[n]? =some y)
  (q:∀h',IsZip h' z TI TO (rawInt s.heap.objs.size)→IsPair h' TO x y→itAt b1 h' i1 l1 (n+1)→itAt b2 h' i2 l2 (n+1)→IsPair h' s.heap.objs.size x y→h'.objs.size=s.heap.objs.size+1→
   (∀c o,c≠z→c≠TO→c≠i1→c≠i2→s.heap.get? c=some o→h'.get? c=some o)→Q (.ref s.heap.objs.size) {s with heap:=h'}):
  wpAny (model prog w) A (Builtin.«zip.__next__» ⟨[.ref z],[]⟩) (fun fin s'=>∃v,fin= .done (.ret v)∧Q v s') E s:=by
 show wpAny _ _ (field (.ref z) 2>>=_) _ _ _;refine wpAny_bind (wpAny_field hz rfl (x:= .bool false) rfl ?_);show wpAny _ _ (field (.ref z) 3>>=_) _ _ _
 refine wpAny_bind (wpAny_field hz rfl (x:= .ref TI) rfl ?_);refine wpAny_bind (wpAny_seqItems hTI rfl ?_);show wpAny _ _ (SmallTypes.ownedTupleIsFree (.ref z)>>=_) _ _ _
 refine wpAny_bind ?_;unfold SmallTypes.ownedTupleIsFree;refine wpAny_bind (wpAny_field hz rfl (x:= .none) rfl (wpAny_pure ?_));simp only[if_true]
 refine wpAny_bind (wpAny_rule ?_);refine wpAny_bind (wpAny_field hz rfl (x:= .ref TO) rfl ?_);refine wpAny_bind (wpAny_setField_rec hz (by simp) fun k₁ hz₁ e₁=> ?_)
 have hz₁':IsZip k₁ z TI TO .ellipsis:=hz₁
 clear hz₁
 refine wpAny_bind ?_;simp only[List.zipIdx_cons,List.zipIdx_nil,List.forIn_cons,List.forIn_nil]
 refine wpAny_bind (wpAny_bind (wpAny_onRaise ?_));show wpAny _ _ (SmallTypes.nextOf (.ref i1)>>=_) _ _ _
 refine wpAny_bind (rc (h1.ext e₁.extBut D.i1z) (hl1.ext e₁.extBut D.l1z) hx fun k₂ g₂ e₂=>wpAny_pure ?_)
 have o₂:IsPair k₂ TO a b:=e₂.extBut _ _ D.TOi1 (e₁.extBut _ _ D.TOz hTO)
 refine wpAny_bind (wpAny_seqItems o₂ rfl ?_);refine wpAny_bind (wpAny_updateSeq_pair o₂ fun k₃ o₃ e₃=> ?_)
 have o₃':IsPair k₃ TO x b:=o₃
 clear o₃
 refine wpAny_bind (wpAny_letGo (wpAny_pure ?_));refine wpAny_bind (wpAny_bind (wpAny_onRaise ?_));show wpAny _ _ (SmallTypes.nextOf (.ref i2)>>=_) _ _ _
 refine wpAny_bind (rc (((h2.ext e₁.extBut D.i2z).ext e₂.extBut D.i12.symm).ext e₃.extBut D.TOi2.symm) (((hl2.ext e₁.extBut D.l2z).ext e₂.extBut D.l2i1).ext e₃.extBut D.l2TO) hy fun k₄ g₄ e₄=>wpAny_pure ?_)
 have o₄:IsPair k₄ TO x b:=e₄.extBut _ _ D.TOi2 o₃'
 refine wpAny_bind (wpAny_seqItems o₄ rfl ?_);refine wpAny_bind (wpAny_updateSeq_pair o₄ fun k₅ o₅ e₅=> ?_)
 have o₅':IsPair k₅ TO x y:=o₅
 clear o₅
 refine wpAny_bind (wpAny_letGo (wpAny_pure (wpAny_pure ?_)));refine wpAny_bind (wpAny_seqItems o₅' rfl ?_);refine wpAny_bind (wpAny_newTuple ?_)
 have hsz:k₅.objs.size=s.heap.objs.size:=by rw[e₅.1,e₄.1,e₃.1,e₂.1,e₁.1]
 have z₅:IsZip k₅ z TI TO .ellipsis:=e₅.extBut _ _ D.TOz.symm (e₄.extBut _ _ D.i2z.symm (e₃.extBut _ _ D.TOz.symm (e₂.extBut _ _ D.i1z.symm hz₁')))
 have kp:∀c o,c≠z→c≠TO→c≠i1→c≠i2→s.heap.get? c=some o→k₅.get? c=some o:=fun c o c1 c2 c3 c4 e=>
  e₅.extBut _ _ c2 (e₄.extBut _ _ c4 (e₃.extBut _ _ c2 (e₂.extBut _ _ c3 (e₁.extBut _ _ c1 e))))
 have u₁:itAt b1 k₅ i1 l1 (n+1):=((g₂.ext e₃.extBut D.TOi1.symm).ext e₄.extBut D.i12).ext e₅.extBut D.TOi1.symm
 have u₂:itAt b2 k₅ i2 l2 (n+1):=g₄.ext e₅.extBut D.TOi2.symm
 have hlt:z<k₅.objs.size:=Heap.lt_size z₅
 show wpAny _ _ (SmallTypes.ownedTupleHandOut (.ref z) (.ref k₅.objs.size)>>=_) _ _ _;refine wpAny_bind ?_;unfold SmallTypes.ownedTupleHandOut
 have z₆:IsZip (k₅.push {cls:= .type "tuple",data:= .seq #[x,y]}) z TI TO .ellipsis:=Heap.get?_push_of_some _ z₅
 refine wpAny_bind (wpAny_setField_rec z₆ (by simp) fun k₇ z₇ e₇=> ?_)
 have z₇':IsZip k₇ z TI TO (rawInt k₅.objs.size):=z₇
 refine wpAny_setField_rec z₇' (by simp) fun k₈ z₈ e₈=> ?_
 have z₈':IsZip k₈ z TI TO (rawInt k₅.objs.size):=z₈
 have up:∀c o,c≠z→k₅.get? c=some o→k₈.get? c=some o:=fun c o c1 e=>e₈.extBut _ _ c1 (e₇.extBut _ _ c1 (Heap.get?_push_of_some _ e))
 have t₈:IsPair k₈ k₅.objs.size x y:=e₈.extBut _ _ (Nat.ne_of_gt hlt) (e₇.extBut _ _ (Nat.ne_of_gt hlt) (Heap.get?_push_size _ rfl))
 have n₈:k₈.objs.size=k₅.objs.size+1:=by rw[e₈.1,e₇.1,Heap.size_push]
 rw[hsz] at z₈' t₈ n₈
 refine wpAny_pure ⟨_,rfl,?_⟩
 show Q (.ref k₅.objs.size) _
 rw[hsz]
 exact q k₈ z₈' (up _ _ D.TOz o₅') (u₁.to fun o e=>up _ o D.i1z e) (u₂.to fun o e=>up _ o D.i2z e) t₈ n₈ fun c o c1 c2 c3 c4 e=>up c o c1 (kp c o c1 c2 c3 c4 e)
theorem zu {z TI TO i1 i2 l1 l2:Addr} {b1 b2:Bool} {n:Nat} {xs ys:Array Value} {a b:Value} {Q:Fin→Shared→Prop} (hh:A.handled=none) (D:ZipApart z TI TO i1 i2 l1 l2) (hz:IsZip s.heap z TI TO .none)
  (hTI:IsPair s.heap TI (.ref i1) (.ref i2)) (hTO:IsPair s.heap TO a b) (h1:itAt b1 s.heap i1 l1 n) (h2:itAt b2 s.heap i2 l2 n) (hl1:sqAt b1 s.heap l1 xs) (hl2:sqAt b2 s.heap l2 ys) (hend:xs[n]? =none∨ys[n]? =none)
  (q:∀h' e,(∀c o,c≠z→c≠TO→c≠i1→c≠i2→s.heap.get? c=some o→h'.get? c=some o)→(∃o,h'.get? e=some o∧o.cls= .type "StopIteration")→E (.ref e) {s with heap:=h'}):
  wpAny (model prog w) A (Builtin.«zip.__next__» ⟨[.ref z],[]⟩) Q E s:=by
 show wpAny _ _ (field (.ref z) 2>>=_) _ _ _;refine wpAny_bind (wpAny_field hz rfl (x:= .bool false) rfl ?_);show wpAny _ _ (field (.ref z) 3>>=_) _ _ _
 refine wpAny_bind (wpAny_field hz rfl (x:= .ref TI) rfl ?_);refine wpAny_bind (wpAny_seqItems hTI rfl ?_);show wpAny _ _ (SmallTypes.ownedTupleIsFree (.ref z)>>=_) _ _ _
 refine wpAny_bind ?_;unfold SmallTypes.ownedTupleIsFree;refine wpAny_bind (wpAny_field hz rfl (x:= .none) rfl (wpAny_pure ?_));simp only[if_true]
 refine wpAny_bind (wpAny_rule ?_);refine wpAny_bind (wpAny_field hz rfl (x:= .ref TO) rfl ?_);refine wpAny_bind (wpAny_setField_rec hz (by simp) fun k₁ hz₁ e₁=> ?_)
 have hz₁':IsZip k₁ z TI TO .ellipsis:=hz₁
 refine wpAny_bind ?_;simp only[List.zipIdx_cons,List.zipIdx_nil,List.forIn_cons,List.forIn_nil]
 refine wpAny_bind (wpAny_bind (wpAny_onRaise ?_));show wpAny _ _ (SmallTypes.nextOf (.ref i1)>>=_) _ _ _
 cases hx:xs[n]? with
 |none=>
  refine wpAny_bind (wT hh (h1.ext e₁.extBut D.i1z) (hl1.ext e₁.extBut D.l1z) hx fun k₂ e e₂ he=> ?_)
  obtain⟨oe,hoe,hce⟩:=he
  have z₂:IsZip k₂ z TI TO .ellipsis:=e₂ _ _ D.i1z.symm hz₁'
  have ne:e≠z:=fun t=>by subst t;rw[z₂] at hoe;cases hoe;simp at hce
  exact wpAny_setField_rec z₂ (by simp) fun k₃ _ e₃=>q k₃ e (fun c o c1 _ c3 _ t=>e₃.extBut _ _ c1 (e₂ _ _ c3 (e₁.extBut _ _ c1 t))) ⟨oe,e₃.extBut _ _ ne hoe,hce⟩
 |some x=>
  have hy:ys[n]? =none:=by
   rcases hend with t|t
   ·rw[hx] at t;cases t
   ·exact t
  refine wpAny_bind (rc (h1.ext e₁.extBut D.i1z) (hl1.ext e₁.extBut D.l1z) hx fun k₂ g₂ e₂=>wpAny_pure ?_)
  have o₂:IsPair k₂ TO a b:=e₂.extBut _ _ D.TOi1 (e₁.extBut _ _ D.TOz hTO)
  refine wpAny_bind (wpAny_seqItems o₂ rfl ?_);refine wpAny_bind (wpAny_updateSeq_pair o₂ fun k₃ o₃ e₃=> ?_)
  refine wpAny_bind (wpAny_letGo (wpAny_pure ?_));refine wpAny_bind (wpAny_bind (wpAny_onRaise ?_));show wpAny _ _ (SmallTypes.nextOf (.ref i2)>>=_) _ _ _
  refine wpAny_bind (wT hh (((h2.ext e₁.extBut D.i2z).ext e₂.extBut D.i12.symm).ext e₃.extBut D.TOi2.symm) (((hl2.ext e₁.extBut D.l2z).ext e₂.extBut D.l2i1).ext e₃.extBut D.l2TO) hy fun k₄ e e₄ he=> ?_)
  obtain⟨oe,hoe,hce⟩:=he
  have z₄:IsZip k₄ z TI TO .ellipsis:=e₄ _ _ D.i2z.symm (e₃.extBut _ _ D.TOz.symm (e₂.extBut _ _ D.i1z.symm hz₁'))
  have ne:e≠z:=fun t=>by subst t;rw[z₄] at hoe;cases hoe;simp at hce
  exact wpAny_setField_rec z₄ (by simp) fun k₅ _ e₅=>q k₅ e (fun c o c1 c2 c3 c4 t=>e₅.extBut _ _ c1 (e₄ _ _ c4 (e₃.extBut _ _ c2 (e₂.extBut _ _ c3 (e₁.extBut _ _ c1 t))))) ⟨oe,e₅.extBut _ _ ne hoe,hce⟩
end
end PySem
namespace PySem
open Sem (wp)
open Builtin Builtin.Str
section
variable {prog:Program} {w:World} {A:Around} {E:Value→Shared→Prop} {s:Shared}
theorem tZ {z TI TO i1 i2 l1 l2:Addr} {b1 b2:Bool} {n:Nat} {xs ys:Array Value} {x y a b:Value} {Q:Option Value→Shared→Prop} (D:ZipApart z TI TO i1 i2 l1 l2) (hz:IsZip s.heap z TI TO .none)
  (hTI:IsPair s.heap TI (.ref i1) (.ref i2)) (hTO:IsPair s.heap TO a b) (h1:itAt b1 s.heap i1 l1 n) (h2:itAt b2 s.heap i2 l2 n) (hl1:sqAt b1 s.heap l1 xs) (hl2:sqAt b2 s.heap l2 ys) (hx:xs[n]? =some x) (hy:ys[n]? =some y)
  (q:∀h',IsZip h' z TI TO (rawInt s.heap.objs.size)→IsPair h' TO x y→itAt b1 h' i1 l1 (n+1)→itAt b2 h' i2 l2 (n+1)→IsPair h' s.heap.objs.size x y→h'.objs.size=s.heap.objs.size+1→
   (∀c o,c≠z→c≠TO→c≠i1→c≠i2→s.heap.get? c=some o→h'.get? c=some o)→Q (some (.ref s.heap.objs.size)) {s with heap:=h'}):
  wpAny (model prog w) A (pyNext (.ref z)) Q E s:=by
 have hT:s.TypeIs (.ref z) "zip":=⟨_,hz,rfl⟩
 unfold pyNext
 refine wpAny_bind (wpAny_attempt (wpAny_callSpecial?_slot (name:=Str.ofString "__next__") hT F.slot_zip_next ?_))
 exact wpAny_call_entry F.slot_zip_next hT F.entry_zip_next (yt D hz hTI hTO h1 h2 hl1 hl2 hx hy fun h' a1 a2 a3 a4 a5 a6 a7=>wpAny_pure (q h' a1 a2 a3 a4 a5 a6 a7)) (F.args_zip_next_1 _)
theorem tP {z TI TO i1 i2 l1 l2:Addr} {b1 b2:Bool} {n:Nat} {xs ys:Array Value} {a b:Value} {Q:Option Value→Shared→Prop} (hh:A.handled=none) (D:ZipApart z TI TO i1 i2 l1 l2) (hz:IsZip s.heap z TI TO .none)
  (hTI:IsPair s.heap TI (.ref i1) (.ref i2)) (hTO:IsPair s.heap TO a b) (h1:itAt b1 s.heap i1 l1 n) (h2:itAt b2 s.heap i2 l2 n) (hl1:sqAt b1 s.heap l1 xs) (hl2:sqAt b2 s.heap l2 ys) (hend:xs[n]? =none∨ys[n]? =none)
  (q:∀h',(∀c o,c≠z→c≠TO→c≠i1→c≠i2→s.heap.get? c=some o→h'.get? c=some o)→Q none {s with heap:=h'}):wpAny (model prog w) A (pyNext (.ref z)) Q E s:=by
 have hT:s.TypeIs (.ref z) "zip":=⟨_,hz,rfl⟩
 unfold pyNext
 refine wpAny_bind (wpAny_attempt (wpAny_callSpecial?_slot (name:=Str.ofString "__next__") hT F.slot_zip_next ?_))
 refine wpAny_call_entry F.slot_zip_next hT F.entry_zip_next (zu hh D hz hTI hTO h1 h2 hl1 hl2 hend fun h' e hk he=> ?_) (F.args_zip_next_1 _)
 obtain⟨o,ho,hc⟩:=he
 exact wpAny_bind (wpAny_isInstance (T:= "StopIteration") (b:=true) ⟨o,ho,hc⟩ isSubtype_stop (wpAny_pure (q _ hk)))
end
noncomputable abbrev F6 (h:Heap) (b1:Bool) (l1:Addr):Heap:=h.push {cls:= .type (uO b1),data:= .fields #[.ref l1,.int 0 0]}
noncomputable abbrev F4 (h:Heap) (b1 b2:Bool) (l1 l2:Addr):Heap:=(F6 h b1 l1).push {cls:= .type (uO b2),data:= .fields #[.ref l2,.int 0 0]}
noncomputable abbrev F3 (h:Heap) (b1 b2:Bool) (l1 l2:Addr):Heap:=(F4 h b1 b2 l1 l2).push {cls:= .type "tuple",data:= .seq #[.ref h.objs.size,.ref (F6 h b1 l1).objs.size]}
noncomputable abbrev F9 (h:Heap) (b1 b2:Bool) (l1 l2:Addr):Heap:=(F3 h b1 b2 l1 l2).push {cls:= .type "tuple",data:= .seq #[.none,.none]}
noncomputable abbrev F0 (h:Heap) (b1 b2:Bool) (l1 l2:Addr):Heap:=(F9 h b1 b2 l1 l2).push {cls:= .type "zip",data:= .fields #[.none,.bool false,.bool false,.ref (F4 h b1 b2 l1 l2).objs.size,.ref (F3 h b1 b2 l1 l2).objs.size]}
theorem nQ (b1 b2:Bool) (l1 l2:Addr) (xs ys:Array Value):
  Meets (Builtin.«zip.__new__» ⟨[.type "zip",.ref l1,.ref l2],[]⟩) (fun _ R s=>sqAt b1 s.heap l1 xs∧sqAt b2 s.heap l2 ys∧R (.ok (.ret (.ref (F9 s.heap b1 b2 l1 l2).objs.size))) {s with heap:=F0 s.heap b1 b2 l1 l2}):=
 .of_wp fun prog w A R s h=>by
  obtain⟨hp,g,d,tk,os⟩:=s;obtain⟨hl1,hl2,h⟩:=h
  have hsub:=sub_zip
  have hL1:sqAt b1 (Shared.heap ⟨hp,g,d,tk,os⟩) l1 xs:=hl1
  have hL2:sqAt b2 (Shared.heap ⟨hp.push {cls:= .type (uO b1),data:= .fields #[.ref l1,.int 0 0]},g,d,tk,os⟩) l2 ys:=sqAt.psh hl2 _
  wp_walk using w9 hL1,w9 hL2
  exact⟨_,rfl,h⟩
section
variable {prog:Program} {w:World} {A:Around} {E:Value→Shared→Prop} {s:Shared}
theorem Ab {b:Bool} {h:Heap} {it l:Addr} (e:h.get? it=some {cls:= .type (uO b),data:= .fields #[.ref l,.int 0 0]}):itAt b h it l 0:=by
 cases b with
 |true=>exact⟨_,e,rfl,rfl⟩
 |false=>exact⟨_,e,rfl,rfl⟩
theorem ze {b1 b2:Bool} {l1 l2:Addr} {xs ys:Array Value} {Q:Value→Shared→Prop} (hl1:sqAt b1 s.heap l1 xs) (hl2:sqAt b2 s.heap l2 ys)
  (q:∀h',IsZip h' (s.heap.objs.size+4) (s.heap.objs.size+2) (s.heap.objs.size+3) .none→IsPair h' (s.heap.objs.size+2) (.ref s.heap.objs.size) (.ref (s.heap.objs.size+1))→
   IsPair h' (s.heap.objs.size+3) .none .none→itAt b1 h' s.heap.objs.size l1 0→itAt b2 h' (s.heap.objs.size+1) l2 0→(∀c o,s.heap.get? c=some o→h'.get? c=some o)→Q (.ref (s.heap.objs.size+4)) {s with heap:=h'}):
  wpAny (model prog w) A (call (.type "zip") [.ref l1,.ref l2]) Q E s:=by
 refine callType_new F.called_zip (by decide) (F.typeCall_zip_2 _ _) (F.newCall_zip_2 _ _) (fun obj=>F.args_object_init_3 obj _ _) F.entry_zip_new (nQ b1 b2 l1 l2 xs ys) ⟨hl1,hl2,?_⟩
 have n1:(F6 s.heap b1 l1).objs.size=s.heap.objs.size+1:=Heap.size_push ..
 have n2:(F4 s.heap b1 b2 l1 l2).objs.size=s.heap.objs.size+2:=by rw[Heap.size_push,n1]
 have n3:(F3 s.heap b1 b2 l1 l2).objs.size=s.heap.objs.size+3:=by rw[Heap.size_push,n2]
 have n4:(F9 s.heap b1 b2 l1 l2).objs.size=s.heap.objs.size+4:=by rw[Heap.size_push,n3]
 have u1:∀c o,s.heap.get? c=some o→(F6 s.heap b1 l1).get? c=some o:=fun c o e=>Heap.get?_push_of_some _ e
 have u2:∀c o,(F6 s.heap b1 l1).get? c=some o→(F4 s.heap b1 b2 l1 l2).get? c=some o:=fun c o e=>Heap.get?_push_of_some _ e
 have u3:∀c o,(F4 s.heap b1 b2 l1 l2).get? c=some o→(F3 s.heap b1 b2 l1 l2).get? c=some o:=fun c o e=>Heap.get?_push_of_some _ e
 have u4:∀c o,(F3 s.heap b1 b2 l1 l2).get? c=some o→(F9 s.heap b1 b2 l1 l2).get? c=some o:=fun c o e=>Heap.get?_push_of_some _ e
 have u5:∀c o,(F9 s.heap b1 b2 l1 l2).get? c=some o→(F0 s.heap b1 b2 l1 l2).get? c=some o:=fun c o e=>Heap.get?_push_of_some _ e
 have g5:(F0 s.heap b1 b2 l1 l2).get? (F9 s.heap b1 b2 l1 l2).objs.size=some _:=Heap.get?_push_size _ rfl
 have g4:(F0 s.heap b1 b2 l1 l2).get? (F3 s.heap b1 b2 l1 l2).objs.size=some _:=u5 _ _ (Heap.get?_push_size _ rfl)
 have g3:(F0 s.heap b1 b2 l1 l2).get? (F4 s.heap b1 b2 l1 l2).objs.size=some _:=u5 _ _ (u4 _ _ (Heap.get?_push_size _ rfl))
 have g2:(F0 s.heap b1 b2 l1 l2).get? (F6 s.heap b1 l1).objs.size=some _:=u5 _ _ (u4 _ _ (u3 _ _ (Heap.get?_push_size _ rfl)))
 have g1:(F0 s.heap b1 b2 l1 l2).get? s.heap.objs.size=some _:=u5 _ _ (u4 _ _ (u3 _ _ (u2 _ _ (Heap.get?_push_size _ rfl))))
 show _∧_
 rw[n2,n3,n4] at g5;rw[n1,n2] at g3;rw[n3] at g4;rw[n1] at g2;rw[n4]
 exact⟨⟨_,g5,rfl⟩,q _ g5 g3 g4 (Ab g1) (Ab g2) fun c o e=>u5 _ _ (u4 _ _ (u3 _ _ (u2 _ _ (u1 _ _ e))))⟩
end
end PySem
namespace L3
open PySem PySem.Spec PyProof.Rows L2
def zi (b:Bool) (K:PySem.W.Frag) (H:Hp) (a:Addr) (xs:List V):Prop:=match b with
 |true=>SqT K H a xs
 |false=>SqL K H a xs
noncomputable def HW (K:PySem.W.Frag) (b1 b2:Bool) (a c:Addr):It:=
 ⟨fun i H=>∃xs ys x y,zi b1 K H a xs∧zi b2 K H c ys∧xs[i]? =some x∧ys[i]? =some y,
  fun i H v H'=>∃p x y,H p=none∧v= .ref p∧(∀xs,zi b1 K H a xs→xs[i]? =some x)∧(∀ys,zi b2 K H c ys→ys[i]? =some y)∧H'=bL H p (.tup [x,y]),
  fun i H=>∃xs ys,zi b1 K H a xs∧zi b2 K H c ys∧(xs.length≤i∨ys.length≤i)⟩
theorem CA {X:Cx} {pins:List (Addr×Obj)} {σ:L2.St} {H:Hp} {s:Shared} {a:Addr} {xs ys:List V} (I:Inv X pins σ H s) (h1:SqL X.K H a xs) (h2:SqL X.K H a ys):xs=ys:=by
 obtain⟨its,r1,⟨o,k,e1,_,n,d1⟩,_⟩:=I.list h1
 obtain⟨its2,r2,⟨o2,k2,e2,_,n2,d2⟩,_⟩:=I.list h2
 rw[e1] at e2
 cases e2
 have:its=its2:=by
  have q:its.toArray=its2.toArray:=by injection d1.symm.trans d2
  simpa using q
 subst this
 exact r1.inj r2
theorem lZ {X:Cx} {pins:List (Addr×Obj)} {σ:L2.St} {H:Hp} {s:Shared} {b:Bool} {a:Addr} {xs:List V} (I:Inv X pins σ H s) (h:zi b X.K H a xs):∃its,Vals xs its∧sqAt b s.heap a its.toArray:=by
 cases b with
 |true=>obtain⟨its,rv,p,hz⟩:=I.tuple h;exact⟨its,rv,p⟩
 |false=>obtain⟨its,rv,p,hz⟩:=I.list h;exact⟨its,rv,p.isList⟩
theorem xI {X:Cx} {pins:List (Addr×Obj)} {σ:L2.St} {H:Hp} {s:Shared} {b:Bool} {a:Addr} {xs ys:List V} (I:Inv X pins σ H s) (h1:zi b X.K H a xs) (h2:zi b X.K H a ys):xs=ys:=by
 cases b with
 |true=>exact BR I h1 h2
 |false=>exact CA I h1 h2
theorem yN {X:Cx} {pins:List (Addr×Obj)} {σ:L2.St} {H:Hp} {s:Shared} {h':Heap} {t':Nat} {ch:List Addr} (I:Inv X pins σ H s) (hf:∀b∈ch,lS X pins H b)
  (k:∀b u,b∉ch→s.heap.get? b=some u→h'.get? b=some u):Inv X pins σ H {s with heap:=h',toks:=t'}:=by
 have nch:∀b u,H b=some u→b∉ch:=fun b u e z=>by rw[(hf b z).1] at e;cases e
 refine I.step (g':=s.gens) (d':=s.drawn) (ch:=ch) (fun b hb=> ?_) (fun b u _ _ hc e _=>k b u hc e) (fun b u _ _ hc e _=>⟨u.slots,k b u hc e⟩) (fun _ _ _ _ n=>n)
  (fun b u hc e=>⟨u,k b u hc e⟩) (fun _ _ e=>e) (fun _ _ _ e=>e) (fun b ps e=>⟨#[],by rw[e];simp⟩) (fun m hm=> ?_) (fun b u e=> ?_) I.bare
 ·obtain⟨_,h2,_,h4,h5,h6⟩:=hf b hb
  exact⟨h4,h2,h5,h6⟩
 ·obtain⟨ob,es,ep,ho,r⟩:=hm
  exact⟨ob,es,ep,k _ ob (fun z=>(hf _ z).2.1 rfl) ho,r⟩
 ·refine(I.hok b u e).stay (fun c v hc q=>k c v ?_ q) (fun _ q=>q) fun _ _ q=>q
  rcases hc with z|z
  ·rw[z];exact nch b u e
  ·exact nch c _ z
theorem zA {P:Program} {w:World} {K:PySem.W.Frag} {elts:List Expr} {kk} {tp:Pos} (b1 b2:Bool) (z TI TO i1 i2 l1 l2:Addr) (D:ZipApart z TI TO i1 i2 l1 l2):
  Turn P w K (.Tuple elts kk tp) (HW K b1 b2 l1 l2) [z,TI,TO,i1,i2] z (fun i h=>IsZip h z TI TO .none∧IsPair h TI (.ref i1) (.ref i2)∧(∃a b,IsPair h TO a b)∧itAt b1 h i1 l1 i∧itAt b2 h i2 l2 i) where
 mem:=by simp
 obj:=fun i h st b hb=>by
  obtain⟨hz,hI,⟨a,c,hO⟩,h1,h2⟩:=st
  simp only[List.mem_cons,List.not_mem_nil,or_false] at hb
  rcases hb with rfl|rfl|rfl|rfl|rfl
  ·exact⟨_,hz,fun v q=>by cases(show Data.fields _=Data.cell v from q)⟩
  ·exact⟨_,hI,fun v q=>by cases(show Data.seq _ _=Data.cell v from q)⟩
  ·exact⟨_,hO,fun v q=>by cases(show Data.seq _ _=Data.cell v from q)⟩
  ·exact h1.live
  ·exact h2.live
 keep:=fun i h h' st k=>by
  obtain⟨hz,hI,⟨a,c,hO⟩,h1,h2⟩:=st
  exact⟨k z (by simp) _ hz,k TI (by simp) _ hI,⟨a,c,k TO (by simp) _ hO⟩,h1.to fun o q=>k i1 (by simp) o q,h2.to fun o q=>k i2 (by simp) o q⟩
 item:=by
  intro X hP hw hK hc i pins s σ H E I hf st hg
  subst hP hw hK
  obtain⟨hz,hI,⟨a,c,hO⟩,h1,h2⟩:=st
  obtain⟨xs,ys,x,y,sx,sy,hx,hy⟩:=hg
  obtain⟨its,rx,px⟩:=lZ I sx
  obtain⟨jts,ry,py⟩:=lZ I sy
  obtain⟨u,hu,ru⟩:=rx.get hx
  obtain⟨t,ht,rt⟩:=ry.get hy
  refine tZ (x:=u) (y:=t) D hz hI hO h1 h2 px py (by simpa using hu) (by simpa using ht) fun k z1 o1 g1 g2 pr sz kp=>⟨_,rfl,?_⟩
  refine wpAny_letOwnedTupleGo_zip (s:={s with heap:=k}) z1 fun h2' z2 e2=> ?_
  have hzl:z<s.heap.objs.size:=Heap.lt_size hz
  have hIl:TI<s.heap.objs.size:=Heap.lt_size hI
  have hOl:TO<s.heap.objs.size:=Heap.lt_size hO
  have h1l:i1<s.heap.objs.size:=by obtain⟨_,q,_⟩:=h1.live;exact Heap.lt_size q
  have h2l:i2<s.heap.objs.size:=by obtain⟨_,q,_⟩:=h2.live;exact Heap.lt_size q
  have hn:H s.heap.objs.size=none:=I.hok.fresh (Nat.le_refl _)
  have kk:∀b o,b∉[z,TI,TO,i1,i2]→s.heap.get? b=some o→h2'.get? b=some o:=fun b o hb q=>by
   simp only[List.mem_cons,List.not_mem_nil,or_false,not_or] at hb
   exact(e2.2 b hb.1).trans (kp b o hb.1 hb.2.2.1 hb.2.2.2.1 hb.2.2.2.2 q)
  have hT2:h2'.get? s.heap.objs.size=some {cls:= .type "tuple",data:= .seq #[u,t]}:=(e2.2 _ (Nat.ne_of_gt hzl)).trans pr
  have I2:Inv X pins σ (bL H s.heap.objs.size (.tup [x,y])) {s with heap:=h2'}:=
   I.turnedLaid (t':=s.toks) (ch:=[z,TI,TO,i1,i2]) hf kk (Nat.le_refl _) ⟨by show 2≤sizeLine;decide,[u,t],.cons ru (.cons rt .nil),⟨_,hT2,⟨rfl,_,rfl⟩,rfl⟩⟩
  have oth:∀b o,b≠z→k.get? b=some o→h2'.get? b=some o:=fun b o n q=>(e2.2 b n).trans q
  refine⟨.ref s.heap.objs.size,_,I2,rfl,⟨_,x,y,hn,rfl,fun zs hs=>by rw[xI I hs sx];exact hx,fun zs hs=>by rw[xI I hs sy];exact hy,rfl⟩,
   ⟨z2,oth _ _ D.TIz (kp _ _ D.TIz D.TITO D.TIi1 D.TIi2 hI),⟨_,_,oth _ _ D.TOz o1⟩,g1.to fun o q=>oth _ _ D.i1z q,g2.to fun o q=>oth _ _ D.i2z q⟩,fun b hb=> ?_⟩
  have hb2:b<s.heap.objs.size:=by
   simp only[List.mem_cons,List.not_mem_nil,or_false] at hb
   rcases hb with rfl|rfl|rfl|rfl|rfl<;>assumption
  rw[aX (Nat.ne_of_lt hb2)]
  exact(hf b hb).1
 done:=by
  intro X hP hw hK hc i pins s σ H E I hf st hg
  subst hP hw hK
  obtain⟨hz,hI,⟨a,c,hO⟩,h1,h2⟩:=st
  obtain⟨xs,ys,sx,sy,hxy⟩:=hg
  obtain⟨its,rx,px⟩:=lZ I sx
  obtain⟨jts,ry,py⟩:=lZ I sy
  have hl1:=rx.length
  have hl2:=ry.length
  have hd:its.toArray[i]? =none∨jts.toArray[i]? =none:=by
   rcases hxy with q|q
   ·exact .inl (by simp;omega)
   ·exact .inr (by simp;omega)
  refine tP (I.ok.hd hc) D hz hI hO h1 h2 px py hd fun k kp=>⟨rfl,?_⟩
  exact yN I (t':=s.toks) (ch:=[z,TI,TO,i1,i2]) hf fun b o hb q=>by
   simp only[List.mem_cons,List.not_mem_nil,or_false,not_or] at hb
   exact kp b o hb.1 hb.2.2.1 hb.2.2.2.1 hb.2.2.2.2 q
 self:=fun _ _ _ _ _ st h=>wpAny_pyIter_zip st.1 h
theorem yr (n l1 l2:Nat) (h1:l1<n) (h2:l2<n):ZipApart (n+4) (n+2) (n+3) n (n+1) l1 l2:=by constructor<;>(show(_:Nat)≠_;omega)
def Ec (K:PySem.W.Frag) (ta:TA):TI:=fun σ H R=>ta σ H fun vs H1=>∃a c b1 b2,vs=[.ref a,.ref c]∧(∃xs,zi b1 K H1 a xs)∧(∃ys,zi b2 K H1 c ys)∧R (HW K b1 b2 a c) H1
theorem AN:bootBuiltins "zip"=some (.type "zip"):=by decide+kernel
theorem Fe {X:Cx} {l m:Expr} {ta:TA} {p pos tp:Pos} {elts:List Expr} {kk} (hg:Gl X "zip") (hm:X.mg "zip"=none) (ha:PA X [l,m] ta) (hs:starEach [l,m] X.env=(false,eval l X.env)::starEach [m] X.env:=by rfl) (hp:(backTo pos (starEach [m] X.env)).any (·.1)=false:=by rfl):
  PI X (.Tuple elts kk tp) (.Call (.Name "zip" p) [l,m] [] pos) (Ec X.K ta):=by
 intro pins s σ H R I h
 refine Call_ (lI I hg hm AN (PyProof.Rows.callWith_type1 (dH (ha pos pins s σ H _ I h) fun us s1 ⟨vs,H1,I1,r1,q1⟩=> ?_) hs hp))
 obtain⟨a,c,b1,b2,e,⟨xs,sx⟩,⟨ys,sy⟩,q⟩:=q1
 subst e
 obtain⟨u,t,rfl,ru,rt⟩:=DQ r1
 cases ru;cases rt
 obtain⟨its,rx,px⟩:=lZ I1 sx
 obtain⟨jts,ry,py⟩:=lZ I1 sy
 have fp:∀b∈[s1.heap.objs.size+4,s1.heap.objs.size+2,s1.heap.objs.size+3,s1.heap.objs.size,s1.heap.objs.size+1],lS X pins H1 b:=fun b hb=>by
  have hb2:s1.heap.objs.size≤b:=by
   simp only[List.mem_cons,List.not_mem_nil,or_false] at hb
   have hb':(b:Nat)=s1.heap.objs.size+4∨(b:Nat)=s1.heap.objs.size+2∨(b:Nat)=s1.heap.objs.size+3∨(b:Nat)=s1.heap.objs.size∨(b:Nat)=s1.heap.objs.size+1:=hb
   show(s1.heap.objs.size:Nat)≤b
   omega
  exact I1.fpOk hb2 (I1.hok.fresh hb2)
 refine ze px py fun h1 z1 p1 p2 t1 t2 hk=> ?_
 refine wpAny_pyIter_zip (s:={s1 with heap:=h1}) z1 ?_
 exact⟨s1.heap.objs.size+4,_,_,_,H1,rfl,I1.kept (t':=s1.toks) hk,zA b1 b2 _ _ _ _ _ a c (yr _ _ _ px.lt py.lt),⟨z1,p1,⟨_,_,p2⟩,t1,t2⟩,fp,q⟩
noncomputable def GC:Expr→Bool
 | .Starred _ _=>true
 |_=>false
theorem qO (e:Expr) (es:List Expr) (env:Env) (h:GC e=false):starEach (e::es) env=(false,eval e env)::starEach es env:=by
 cases e<;>first|rfl|cases h
section
variable {X:Cx} {a b c e:Expr} {ta tb tc td:TE} {k:Nat} {pos:Pos}
end
noncomputable def ka:List D→List D→List D
 |x::r,y::q=> .tuple [x,y]::ka r q
 |_,_=>[]
theorem uS:∀(xs ys:List D),(ka xs ys).length=min xs.length ys.length
 |[],_=>by simp[ka]
 |_::_,[]=>by simp[ka]
 |_::r,_::q=>by simp only[ka,List.length_cons,uS r q];omega
theorem uC:∀(xs ys:List D) (i:Nat),(ka xs ys)[i]? =(xs[i]?).bind fun x=>(ys[i]?).map fun y=> .tuple [x,y]
 |[],_,_=>by simp[ka]
 |x::r,[],i=>by cases i<;>simp[ka]
 |x::r,y::q,0=>by simp[ka]
 |x::r,y::q,i+1=>by simp only[ka,List.getElem?_cons_succ];exact uC r q i
section
variable {K:PySem.W.Frag} {E:XK} {B O O':b6} {H0 H H':Hp} {σ:L2.St} {ρ ρ':aV} {v:V}
def SqBO (b:Bool) (O:b6) (K:PySem.W.Frag) (H:Hp) (a:Addr) (xs:List V):Prop:=match b with
 |true=>SqTO O K H a xs
 |false=>SqLO O K H a xs
theorem SqBO.ev {b:Bool} {a:Addr} {xs:List V} (h:SqBO b O K H a xs) (e:Ev O H O' H'):SqBO b O' K H' a xs:=by
 cases b with
 |true=>exact SqTO.ev h e
 |false=>exact SqLO.ev h e
theorem SqBO.at {b:Bool} {a:Addr} {xs:List V} (h:SqBO b O K H a xs):zi b K H a xs:=by
 cases b with
 |true=>exact(show SqTO O K H a xs from h).1
 |false=>exact(show SqLO O K H a xs from h).1.sq
theorem ED {b1 b2:Bool} {a c:Addr} {xs ys:List V} {ds es:List D} (h:SqBO b1 O K H a xs) (hd:DVs O K H xs ds) (g:SqBO b2 O K H c ys) (gd:DVs O K H ys es):u0 K (HW K b1 b2 a c) O H (ka ds es):=by
 intro O' H' e n
 have h':=h.ev e
 have hd':=hd.ev e
 have g':=g.ev e
 have gd':=gd.ev e
 rw[uS]
 refine⟨fun i hi=> ?_,⟨xs,ys,h'.at,g'.at,?_⟩⟩
 ·have i1:i<ds.length:=by omega
  have i2:i<es.length:=by omega
  obtain⟨x,hx,dx⟩:=hd'.get (List.getElem?_eq_getElem i1)
  obtain⟨y,hy,dy⟩:=gd'.get (List.getElem?_eq_getElem i2)
  refine⟨⟨xs,ys,x,y,h'.at,g'.at,hx,hy⟩,?_⟩
  rintro t H'' ⟨p,x',y',hp,rfl,hx',hy',rfl⟩
  have q1:=hx' xs h'.at
  have q2:=hy' ys g'.at
  rw[hx] at q1
  rw[hy] at q2
  cases q1;cases q2
  refine⟨cb hp _,.tuple [ds[i],es[i]],?_,.tup ⟨SqT.of aO,fun q=>absurd q (n p hp)⟩ (.cons (dx.ev (Ev.grow (cb hp _))) (.cons (dy.ev (Ev.grow (cb hp _))) .nil))⟩
  rw[uC,List.getElem?_eq_getElem i1,List.getElem?_eq_getElem i2]
  rfl
 ·rw[hd.length,gd.length]
  omega
theorem Eb {d:D} {ds:List D} (h:DV O K H v d) (q:eT d=some ds):∃b a xs,v= .ref a∧SqBO b O K H a xs∧DVs O K H xs ds:=by
 cases h with
 |tup h hs=>cases q;exact⟨true,_,_,rfl,h,hs⟩
 |lst h hs=>cases q;exact⟨false,_,_,rfl,h,hs⟩
 |_=>cases q
noncomputable def Bt (fa:FA):FI:=fun ρ=>(fa ρ).bind fun a=>(Res.ofO (mV a.2 a.1)).bind fun b=>match b.1 with
 |[d,e]=>(Res.ofO (eT d)).bind fun ds=>(Res.ofO (eT e)).bind fun es=> .ok (ka ds es,b.2)
 |_=> .bad
theorem FV {ta:TA} {fa:FA} (h:AO K E ta fa):IO K E (Ec K ta) (Bt fa):=by
 intro B H0 O σ H ρ R' R w
 refine h B H0 O σ H ρ _ R (w.bind.imp fun a w1 O1 vs H1 e1 R1 p1=> ?_)
 obtain⟨⟨ds,ρ2⟩,q,w1⟩:=w1.ofO
 obtain⟨O2,e2,R2,dv⟩:=nG R1 p1 q
 dsimp only at w1
 cases dv with
 |nil=>exact w1.elim
 |cons h1 h2=>
  cases h2 with
  |nil=>exact w1.elim
  |cons h2 h3=>
   cases h3 with
   |cons _ _=>exact w1.elim
   |nil=>
    obtain⟨es,qs,w1⟩:=WR.ofO w1
    obtain⟨fs,qt,w1⟩:=WR.ofO w1
    obtain⟨b1,a1,xs,rfl,s1,d1⟩:=Eb h1 qs
    obtain⟨b2,a2,ys,rfl,s2,d2⟩:=Eb h2 qt
    exact⟨a1,a2,b1,b2,rfl,⟨_,s1.at⟩,⟨_,s2.at⟩,w1 O2 _ H1 (e1.trans e2) R2 (ED s1 d1 s2 d2)⟩
noncomputable def nw (d e:D):Option RV:=match d,e with
 | .str z,.int i=>if z.length≤1000000 then(l8 z.cps.toList i).map fun c=> .fz (.str ⟨#[c]⟩) else none
 |_,_=>none
theorem Dj:pI K (Hm K) nw:=by
 intro O H x y dx dy rv Q n hx hy e q
 unfold nw at e
 split at e
 ·split at e
  ·rename_i z i hl
   cases qa:l8 z.cps.toList i with
   |none=>rw[qa] at e;cases e
   |some c=>
    rw[qa] at e
    cases e
    cases hx;cases hy
    exact .inr (.inr ⟨z,i,c,rfl,rfl,wH hl,qa,q.at (.str _)⟩)
  ·cases e
 ·cases e
end
end L3
namespace L3
open PySem L2
def Ib (N C:aV→Prop) (T:RV→Prop):Res Fl→Prop
 | .ok (.nx ρ)=>N ρ
 | .ok (.ct ρ)=>C ρ
 | .ok (.rt v)=>T v
 |_=>False
structure Go (r:Res Fl) (N C:aV→Prop) (T:RV→Prop):Prop where
 out:Ib N C T r
section
variable {ρ ρ1 ρ2 ρ3:aV} {f g:FS} {fe:FE} {pv:PV} {d:D} {rv:RV} {ds:List D} {N C:aV→Prop} {T:RV→Prop}
theorem Go.eq {r r':Res Fl} (e:r=r') (h:Go r' N C T):Go r N C T:=by rw[e];exact h
theorem Go.imp {r:Res Fl} {N' C':aV→Prop} {T':RV→Prop} (h:Go r N C T) (hN:∀ρ,N ρ→N' ρ) (hC:∀ρ,C ρ→C' ρ) (hT:∀v,T v→T' v):Go r N' C' T':=by
 refine⟨?_⟩
 have h:=h.out
 cases r with
 |bad=>exact h
 |er x=>exact h
 |ok fl=>
  cases fl with
  |nx r=>exact hN _ h
  |ct r=>exact hC _ h
  |rt v=>exact hT _ h
  |bk r=>exact h
theorem v3 (h:Go (f ρ) (fun r=>Go (g r) N C T) C T):Go (dZ f g ρ) N C T:=by
 refine⟨?_⟩
 have h:=h.out
 unfold dZ
 cases q:f ρ with
 |bad=>rw[q] at h;exact h.elim
 |er x=>rw[q] at h;exact h.elim
 |ok fl=>
  rw[q] at h
  cases fl with
  |nx r=>exact(show Go (g r) N C T from h).out
  |ct r=>exact h
  |rt v=>exact h
  |bk r=>exact h.elim
theorem Av {gt:FG} (he:fe ρ= .ok (pv,ρ1)) (hg:gt pv ρ1= .ok ρ2) (h:N ρ2):Go (jU fe gt ρ) N C T:= .eq (vO he hg rfl) ⟨h⟩
theorem rE (he:fe ρ= .ok (pv,ρ1)) (h:N ρ1):Go (pF fe ρ) N C T:= .eq (xJ he) ⟨h⟩
theorem gp (he:fe ρ= .ok (pv,ρ1)) (hr:yT ρ1 pv=some rv) (h:T rv):Go (fX fe ρ) N C T:= .eq (tD he hr) ⟨h⟩
theorem wN {gt:FG} {b:FS} (I:Nat→aV→Prop):∀(ds:List D) (k:Nat) (ρ:aV),I k ρ→(∀i d ρ,ds[i]? =some d→I (k+i) ρ→∃ρ1,gt (.fz d) ρ= .ok ρ1∧Go (b ρ1) (I (k+i+1)) (I (k+i+1)) T)→Go (mP gt b ds ρ) (I (k+ds.length)) C T
 |[],k,ρ,h0,_=>⟨h0⟩
 |d::r,k,ρ,h0,hs=>by
  obtain⟨ρ1,h1,h2⟩:=hs 0 d ρ rfl h0
  have h2:=h2.out
  have rest:∀ρ',I (k+1) ρ'→Go (mP gt b r ρ') (I (k+(r.length+1))) C T:=fun ρ' h=>by
   have e:k+(r.length+1)=k+1+r.length:=by omega
   rw[e]
   refine wN I r (k+1) ρ' h fun i d' ρ'' hi hI=> ?_
   have e:k+1+i=k+(i+1):=by omega
   rw[e] at hI⊢
   exact hs (i+1) d' ρ'' (by simpa using hi) hI
  refine⟨?_⟩
  show Ib _ _ _ ((gt (.fz d) ρ).bind _)
  rw[h1,Res.bind_ok]
  cases q:b ρ1 with
  |bad=>rw[q] at h2;exact h2.elim
  |er x=>rw[q] at h2;exact h2.elim
  |ok fl=>
   rw[q] at h2
   cases fl with
   |nx r=>exact(rest _ h2).out
   |ct r=>exact(rest _ h2).out
   |rt v=>exact h2
   |bk r=>exact h2.elim
theorem EY {fi:FI} {gt:FG} {b:FS} (I:Nat→aV→Prop) (hi:fi ρ= .ok (ds,ρ1)) (h0:I 0 ρ1) (hs:∀i d ρ,ds[i]? =some d→I i ρ→∃ρ1,gt (.fz d) ρ= .ok ρ1∧Go (b ρ1) (I (i+1)) (I (i+1)) T) (hN:∀ρ',I ds.length ρ'→N ρ'):Go (sd fi gt b ρ) N C T:=by
 have:=wN (C:=C) (T:=T) I ds 0 ρ1 h0 (by simpa using hs)
 rw[Nat.zero_add] at this
 exact .eq (vJ hi) (this.imp hN (fun _ h=>h) fun _ h=>h)
theorem sN {n:Nat} {g:FS} {T:RV→Prop} (hρ:ds.map (fun d=>some (.fz d))++List.replicate (n - ds.length) none=ρ) (h:Go (g ρ) (fun _=>T (.fz .none)) (fun _=>False) T):∃rv,iJ n g ds= .ok rv∧T rv:=by
 have h:=h.out
 unfold iJ
 rw[hρ]
 cases q:g ρ with
 |bad=>rw[q] at h;exact h.elim
 |er x=>rw[q] at h;exact h.elim
 |ok fl=>
  rw[q] at h
  cases fl with
  |nx r=>exact⟨_,rfl,h⟩
  |ct r=>exact h.elim
  |rt v=>exact⟨_,rfl,h⟩
  |bk r=>exact h.elim
theorem km {n:Nat} {g:FS} {v:RV} (hρ:ds.map (fun d=>some (.fz d))++List.replicate (n - ds.length) none=ρ) (h:Go (g ρ) (fun _=>RV.fz .none=v) (fun _=>False) (fun r=>r=v)):iJ n g ds= .ok v:=by
 obtain⟨rv,h1,h2⟩:=sN (T:=fun r=>r=v) hρ h
 rw[h1,h2]
theorem iV {gt:FG} (he:fe ρ= .ok (pv,ρ1)) (hg:gt pv ρ1= .ok ρ2) (hn:ρ2=ρ3) (h:Go (g ρ3) N C T):Go (dZ (jU fe gt) g ρ) N C T:= .eq (zw (vO he hg hn)) h
theorem lH (he:fe ρ= .ok (pv,ρ1)) (hr:yT ρ1 pv=some rv) (h:T rv):Go (dZ (fX fe) g ρ) N C T:= .eq (Am (tD he hr)) ⟨h⟩
theorem jr (h:Go (g ρ) N C T):Go (dZ hZ g ρ) N C T:= .eq rfl h
theorem ya {c:FT} {f1 f2:FS} {b:Bool} (hc:c ρ= .ok (b,ρ1)) (ht:b=true→Go (dZ f1 g ρ1) N C T) (hf:b=false→Go (dZ f2 g ρ1) N C T):Go (dZ (pO c f1 f2) g ρ) N C T:=by
 have e:dZ (pO c f1 f2) g ρ=if b=true then dZ f1 g ρ1 else dZ f2 g ρ1:=by
  unfold dZ pO
  rw[hc,Res.bind_ok]
  cases b<;>rfl
 refine .eq e ?_
 cases b with
 |true=>exact ht rfl
 |false=>exact hf rfl
theorem Ah {fi:FI} {gt:FG} {b:FS} (I:Nat→aV→Prop) (hi:fi ρ= .ok (ds,ρ1)) (h0:I 0 ρ1) (hs:∀i d ρ,ds[i]? =some d→I i ρ→∃ρ1,gt (.fz d) ρ= .ok ρ1∧Go (b ρ1) (I (i+1)) (I (i+1)) T) (hN:∀ρ',I ds.length ρ'→Go (g ρ') N C T):Go (dZ (sd fi gt b) g ρ) N C T:=
 v3 (EY I hi h0 hs hN)
theorem qG {gt:FG} {ft:FT} {fe:FE} (I:aV→Prop) (P:Nat→D→Prop):∀(ds:List D) (k:Nat) (ρ:aV) (acc:List D),I ρ→acc.length+ds.length≤1000000→(∀i d,ds[i]? =some d→∀ρ,I ρ→∃x ρ',jd gt ft fe d ρ= .ok (some x,ρ')∧I ρ'∧P (k+i) x)→
  ∃xs,eZ gt ft fe ds ρ acc= .ok (acc++xs)∧xs.length=ds.length∧∀i x,xs[i]? =some x→P (k+i) x
 |[],k,ρ,acc,_,_,_=>⟨[],by show Res.ok acc=_;simp,rfl,fun i x h=>by simp at h⟩
 |d::r,k,ρ,acc,h0,hl,hs=>by
  obtain⟨x,ρ',h1,h2,h3⟩:=hs 0 d rfl ρ h0
  rw[List.length_cons] at hl
  obtain⟨xs,g1,g2,g3⟩:=qG I P r (k+1) ρ' (acc++[x]) h2 (by rw[List.length_append];simp;omega) fun i d' hi ρ'' hI=>by
   have e:k+1+i=k+(i+1):=by omega
   rw[e]
   exact hs (i+1) d' (by simpa using hi) ρ'' hI
  refine⟨x::xs,?_,by rw[List.length_cons,g2,List.length_cons],fun i y hy=> ?_⟩
  ·rw[oT h1 (by omega)]
   show eZ gt ft fe r ρ' (acc++[x])=_
   rw[g1,List.append_assoc]
   rfl
  ·cases i with
   |zero=>cases(show some x=some y from hy);exact h3
   |succ i=>
    have e:k+(i+1)=k+1+i:=by omega
    rw[e]
    exact g3 i y (by simpa using hy)
theorem ul {gt:FG} {ft:FT} {fe:FE} (I:aV→Prop) (P:Nat→D→Prop) (h0:I ρ) (hl:ds.length≤1000000) (hs:∀i d,ds[i]? =some d→∀ρ,I ρ→∃x ρ',jd gt ft fe d ρ= .ok (some x,ρ')∧I ρ'∧P i x):
  ∃xs,pE (eZ gt ft fe ds ρ [])= .ok xs∧xs.length=ds.length∧∀i x,xs[i]? =some x→P i x:=by
 obtain⟨xs,g1,g2,g3⟩:=qG I P ds 0 ρ [] h0 (by simpa using hl) (by simpa using hs)
 exact⟨xs,by rw[g1];rfl,g2,by simpa using g3⟩
theorem sk {α:Type} {f:α→D} {Q:Nat→α→Prop}:∀(xs:List D) (k:Nat),(∀i x,xs[i]? =some x→∃a,x=f a∧Q (k+i) a)→∃as:List α,xs=as.map f∧∀i a,as[i]? =some a→Q (k+i) a
 |[],_,_=>⟨[],rfl,fun i a h=>by simp at h⟩
 |x::r,k,h=>by
  obtain⟨a,e,q⟩:=h 0 x rfl
  obtain⟨as,e2,q2⟩:=sk (f:=f) (Q:=Q) r (k+1) fun i y hy=>by
   have e:k+1+i=k+(i+1):=by omega
   rw[e]
   exact h (i+1) y (by simpa using hy)
  refine⟨a::as,by rw[e,e2];rfl,fun i b hb=> ?_⟩
  cases i with
  |zero=>cases(show some a=some b from hb);exact q
  |succ i=>
   have e:k+(i+1)=k+1+i:=by omega
   rw[e]
   exact q2 i b (by simpa using hb)
theorem HH {a b:Str} (ha:PyData.strOk a=true) (hb:PyData.strOk b=true):dE (.str a) (.str b)=some (.fz (.bool (a==b))):=by
 unfold dE
 rw[show iL (.str a)=true by unfold iL;rw[show PyData.canLay0 (.str a)=true from ha];rfl,show PyData.canLay0 (.str b)=true from hb,Bool.and_self,if_pos rfl]
 rfl
theorem uI {a:Str} (ha:PyData.strOk a=true):dE (.str a) (.str a)=some (.fz (.bool true)):=by rw[HH ha ha,beq_self_eq_true]
theorem mq {a b:Str} (ha:PyData.strOk a=true) (hb:PyData.strOk b=true) (h:(a==b)=false):dE (.str a) (.str b)=some (.fz (.bool false)):=by rw[HH ha hb,h]
theorem Cc {α:Type} {xs:List α} {i:Int} {v:α} (h0:0≤i) (h:xs[i.toNat]? =some v):l8 xs i=some v:=FQ h0 h
theorem CM {s:List Nat} {n:Nat} (hp:s.Pairwise (·<·)) (h:∀k∈s,k<n):s.length≤n:=by
 have:∀(s:List Nat) (a:Nat),s.Pairwise (·<·)→(∀k∈s,a≤k∧k<n)→s.length≤n - a:=by
  intro s
  induction s with
  |nil=>intro a _ _;exact Nat.zero_le _
  |cons x r ih=>
   intro a hp h
   obtain⟨h1,h2⟩:=List.pairwise_cons.mp hp
   have hx:=h x List.mem_cons_self
   have:=ih (x+1) h2 fun k hk=>⟨h1 k hk,(h k (List.mem_cons_of_mem _ hk)).2⟩
   rw[List.length_cons]
   omega
 exact this s 0 hp fun k hk=>⟨Nat.zero_le _,h k hk⟩
theorem xQ {fr:FA} {ps:List PV} {e:D} {es fs:List D} (ha:fr ρ= .ok (ps,ρ1)) (hd:mV ρ1 ps=some ([d,e],ρ2)) (hs:eT d=some es) (ht:eT e=some fs):Bt fr ρ= .ok (ka es fs,ρ2):=by
 unfold Bt
 rw[ha,Res.bind_ok,hd,bh,Res.bind_ok]
 dsimp only
 rw[hs,bh,Res.bind_ok,ht,bh,Res.bind_ok]
end
end L3
namespace L3
open PySem PySem.Spec PyProof.Rows L2 PySem.Builtin PySem.Builtin.Str
section
variable {X:Cx}
end
end L3
namespace L3
open PySem PySem.Spec PyProof.Rows L2 PySem.Builtin PySem.Builtin.Str
section
variable {X:Cx}
end
end L3
namespace L3
open PySem PySem.Spec PyProof.Rows L2 PySem.Builtin PySem.Builtin.Str
section
variable {X:Cx}
end
end L3
namespace L3
open PySem PySem.Spec PyProof.Rows L2 PySem.Builtin PySem.Builtin.Str
section
variable {K:PySem.W.Frag} {E:XK} {B O O':b6} {H0 H H':Hp} {σ:L2.St} {ρ ρ':aV} {v:V}
end
end L3
namespace PySem
open Sem (wp)
open AutoSeq1 (wpAny_loadPart')
open Builtin Builtin.Str
section
variable {prog:Program} {w:World} {A:Around} {E:Value→Shared→Prop} {s:Shared}
end
section
variable {prog:Program} {w:World} {A:Around} {E:Value→Shared→Prop} {s:Shared}
end
end PySem
namespace PySem
open Sem (wp)
open Builtin Builtin.Str
section
variable {M:Model} {A:Around} {E:Value→Shared→Prop} {s:Shared} {env:Env}
end
end PySem
namespace L3
open PySem PySem.Spec PyProof.Rows L2 PySem.Builtin
section
variable {K:PySem.W.Frag} {E:XK} {B O O':b6} {H0 H H':Hp} {σ:L2.St} {ρ ρ':aV} {v:V}
end
end L3
namespace L3
open PySem L2
end L3
namespace L2
open PySem PySem.Spec PyProof.Rows
section
variable {X:Cx}
end
end L2
namespace L3
open PySem PySem.Spec L2
section
variable {K:PySem.W.Frag} {E:XK}
end
end L3
namespace L2
open PySem PySem.Spec PyProof.Rows
section
variable {κ:Type} [DecidableEq κ]
noncomputable def im (kvs:List (κ×V)) (k:κ):Option V:=(kvs.find? fun kv=>decide (kv.1=k)).map (·.2)
noncomputable def hU (kvs:List (κ×V)) (k:κ) (v:V):List (κ×V):=
 if(kvs.any fun kv=>decide (kv.1=k))=true then kvs.map (fun kv=>if kv.1=k then(kv.1,v) else kv) else kvs++[(k,v)]
noncomputable def lh (kvs:List (κ×V)) (k:κ):List (κ×V):=kvs.filter fun kv=>decide (kv.1≠k)
theorem ou {p:κ×V} {r:List (κ×V)} {k:κ} (e:p.1=k):im (p::r) k=some p.2:=by simp[im,List.find?_cons,e]
theorem ph {p:κ×V} {r:List (κ×V)} {k:κ} (e:¬p.1=k):im (p::r) k=im r k:=by simp[im,List.find?_cons,e]
theorem uQ (k:κ):∀kvs:List (κ×V),(kvs.any fun kv=>decide (kv.1=k))=(im kvs k).isSome
 |[]=>rfl
 |p::r=>by
  rw[List.any_cons]
  by_cases e:p.1=k
  ·simp only[ou e,decide_eq_true e,Bool.true_or,Option.isSome_some]
  ·rw[ph e,decide_eq_false e,Bool.false_or];exact uQ k r
theorem jp (kvs:List (κ×V)) (k:κ) (v:V):(hU kvs k v).length≤kvs.length+1:=by
 unfold hU
 split
 ·rw[List.length_map];omega
 ·rw[List.length_append,List.length_cons,List.length_nil];omega
theorem RelO.isSome_eq {o:Option V} {u:Option Value} (r:RelO o u):o.isSome=u.isSome:=by
 cases o with
 |none=>cases u with
  |none=>rfl
  |some _=>exact(show False from r).elim
 |some _=>cases u with
  |none=>exact(show False from r).elim
  |some _=>rfl
theorem KV.val {kvs:List (κ×V)} {vs:List (κ×Value)} (r:KV kvs vs) (k:κ):RelO (im kvs k) (valueAt vs k):=by
 unfold KV at r
 induction r with
 |nil=>exact True.intro
 | @cons p q ps qs h t ih=>
  obtain⟨h1,h2⟩:=h
  by_cases e:p.1=k
  ·have e':q.1=k:=h1.symm.trans e
   have b:valueAt (q::qs) k=some q.2:=by simp[valueAt,List.find?_cons,e']
   rw[ou e,b];exact h2
  ·have e':¬q.1=k:=fun z=>e (h1.trans z)
   have b:valueAt (q::qs) k=valueAt qs k:=by simp[valueAt,List.find?_cons,e']
   rw[ph e,b];exact ih
theorem KV.any {kvs:List (κ×V)} {vs:List (κ×Value)} (r:KV kvs vs) (k:κ):(kvs.any fun kv=>decide (kv.1=k))=vs.any fun kv=>decide (kv.1=k):=by
 unfold KV at r
 induction r with
 |nil=>rfl
 |cons h t ih=>rw[List.any_cons,List.any_cons,ih,h.1]
theorem KV.repl {kvs:List (κ×V)} {vs:List (κ×Value)} (r:KV kvs vs) (k:κ) {y:V} {u:Value} (ry:RelV y u):
  KV (kvs.map fun kv=>if kv.1=k then(kv.1,y) else kv) (vs.map fun kv=>if kv.1=k then(kv.1,u) else kv):=by
 unfold KV at r⊢
 induction r with
 |nil=>exact .nil
 | @cons p q ps qs h t ih=>
  rw[List.map_cons,List.map_cons]
  refine .cons ?_ ih
  obtain⟨h1,h2⟩:=h
  by_cases e:p.1=k
  ·rw[if_pos e,if_pos (h1.symm.trans e)];exact⟨h1,ry⟩
  ·rw[if_neg e,if_neg (fun z=>e (h1.trans z))];exact⟨h1,h2⟩
theorem KV.put {kvs:List (κ×V)} {vs:List (κ×Value)} (r:KV kvs vs) (k:κ) {y:V} {u:Value} (ry:RelV y u):KV (hU kvs k y) (stored vs k u):=by
 unfold hU stored
 rw[r.any k]
 by_cases e:(vs.any fun kv=>decide (kv.1=k))=true
 ·rw[if_pos e,if_pos e];exact r.repl k ry
 ·rw[if_neg e,if_neg e];exact Paired.snoc r ⟨rfl,ry⟩
theorem KV.drop {kvs:List (κ×V)} {vs:List (κ×Value)} (r:KV kvs vs) (k:κ):KV (lh kvs k) (without vs k):=by
 unfold KV at r⊢
 unfold lh without
 induction r with
 |nil=>exact .nil
 | @cons p q ps qs h t ih=>
  obtain⟨h1,h2⟩:=h
  rw[List.filter_cons,List.filter_cons]
  by_cases e:p.1=k
  ·have a:¬decide (p.1≠k)=true:=by simp[e]
   have b:¬decide (q.1≠k)=true:=by simp[h1.symm.trans e]
   rw[if_neg a,if_neg b];exact ih
  ·have e':¬q.1=k:=fun z=>e (h1.trans z)
   have a:decide (p.1≠k)=true:=by simp[e]
   have b:decide (q.1≠k)=true:=by simp[e']
   rw[if_pos a,if_pos b];exact .cons ⟨h1,h2⟩ ih
theorem KV.keys {kvs:List (κ×V)} {vs:List (κ×Value)} (r:KV kvs vs):kvs.map (·.1)=vs.map (·.1):=by
 unfold KV at r
 induction r with
 |nil=>rfl
 |cons h t ih=>rw[List.map_cons,List.map_cons,ih,h.1]
theorem KV.length {kvs:List (κ×V)} {vs:List (κ×Value)} (r:KV kvs vs):kvs.length=vs.length:=Paired.length r
theorem z5 (kvs:List (κ×V)) (k:κ):(lh kvs k).length≤kvs.length:=List.length_filter_le _ _
end
theorem oG {P:Program} {w:World} {k:bJ} {u:Value} (r:RelV (kV k) u):(ce P w).is k u=true:=by
 cases k with
 |inl i=>obtain⟨t,e⟩:=(show∃t,u=Value.int i t from r);subst e;exact uj P w i t
 |inr x=>obtain⟨t,e⟩:=(show∃t,u=Value.str x t from r);subst e;exact ue P w x t
theorem qT {P:Program} {w:World}:∀{ks:List bJ} {us:List Value},Vals (ks.map kV) us→ItemsAre (ce P w) ks us
 |[],_,r=>by rw[List.map_nil] at r;cases r;exact .nil
 |k::ks,_,r=>by
  rw[List.map_cons] at r
  cases r with
  |cons h t=>exact .cons (oG h) (qT t)
noncomputable abbrev KT (H:Hp):List (List bJ×V)→List (List bJ×Addr×Value)→Prop:=Paired fun p q=>p.1=q.1∧H q.2.1=some (.tup (p.1.map kV))∧RelV p.2 q.2.2
theorem KT.val {H:Hp} {kvs:List (List bJ×V)} {xs:List (List bJ×Addr×Value)} (r:KT H kvs xs) (k:List bJ):RelO (im kvs k) ((atKey xs k).map (·.2)):=by
 induction r with
 |nil=>exact True.intro
 | @cons p q ps qs h t ih=>
  obtain⟨h1,_,h2⟩:=h
  by_cases e:p.1=k
  ·have e':q.1=k:=h1.symm.trans e
   have b:atKey (q::qs) k=some q.2:=by simp[atKey,List.find?_cons,e']
   rw[ou e,b];exact h2
  ·have e':¬q.1=k:=fun z=>e (h1.trans z)
   have b:atKey (q::qs) k=atKey qs k:=by simp[atKey,List.find?_cons,e']
   rw[ph e,b];exact ih
theorem KT.repl {H:Hp} {kvs:List (List bJ×V)} {xs:List (List bJ×Addr×Value)} (r:KT H kvs xs) (k:List bJ) {y:V} {u:Value} (ry:RelV y u):
  KT H (kvs.map fun kv=>if kv.1=k then(kv.1,y) else kv) (xs.map (putAt k u)):=by
 induction r with
 |nil=>exact .nil
 | @cons p q ps qs h t ih=>
  rw[List.map_cons,List.map_cons]
  refine .cons ?_ ih
  obtain⟨h1,h2,h3⟩:=h
  unfold putAt
  by_cases e:p.1=k
  ·rw[if_pos e,if_pos (h1.symm.trans e)];exact⟨h1,h2,ry⟩
  ·rw[if_neg e,if_neg (fun z=>e (h1.trans z))];exact⟨h1,h2,h3⟩
theorem KT.put {H:Hp} {kvs:List (List bJ×V)} {xs:List (List bJ×Addr×Value)} (r:KT H kvs xs) (k:List bJ) {b:Addr} {y:V} {u:Value} (hb:H b=some (.tup (k.map kV))) (ry:RelV y u):
  KT H (hU kvs k y) (storedH xs k b u):=by
 have e:(kvs.any fun kv=>decide (kv.1=k))=(atKey xs k).isSome:=by
  rw[uQ,(r.val k).isSome_eq,Option.isSome_map]
 unfold hU storedH
 rw[e]
 by_cases q:(atKey xs k).isSome=true
 ·rw[if_pos q,if_pos q];exact r.repl k ry
 ·rw[if_neg q,if_neg q];exact Paired.snoc r ⟨rfl,hb,ry⟩
theorem KT.keeps {H H':Hp} {kvs:List (List bJ×V)} {xs:List (List bJ×Addr×Value)} (r:KT H kvs xs) (ht:∀b ys,H b=some (.tup ys)→H' b=some (.tup ys)):KT H' kvs xs:=
 Paired.mapP r fun _ _ z=>⟨z.1,ht _ _ z.2.1,z.2.2⟩
section
variable {P:Program} {w:World} {H:Hp} {h:Heap} {a:Addr}
theorem DT {u:HO} (ok:HOk P w H h) (e:Rd H a u):ObjOk P w H h a u:=e.ok ok
theorem qK {kvs:List (bJ×V)} (ok:HOk P w H h) (e:Rd H a (.dK kvs)):kvs.length≤sizeLine∧(a==sysModules)=false∧∃vs,KV kvs vs∧h.DictOf (ce P w) a vs:=
 show ObjOk P w H h a (.dK kvs) from DT ok e
theorem ut {kvs:List (bJ×V)} (ok:HOk P w H h) (e:H a=some (.dK kvs)):kvs.length≤sizeLine∧(a==sysModules)=false∧∃vs,KV kvs vs∧h.DictOf (ce P w) a vs:=qK ok (.inl e)
theorem oX {ks:List bJ} (ok:HOk P w H h) (e:H a=some (.tup (ks.map kV))):(tupleKind (ce P w)).is h ks a:=by
 obtain⟨_,its,r,o,h1,⟨h2,n,h3⟩,_⟩:=(show ObjOk P w H h a (.tup (ks.map kV)) from ok a _ e)
 exact⟨o,its.toArray,n,h1,h2,h3,by simpa using qT r⟩
theorem qD {kvs:List (List bJ×V)} (ok:HOk P w H h) (e:Rd H a (.dT kvs)):kvs.length≤sizeLine∧(a==sysModules)=false∧
  ∃xs,KT H kvs xs∧h.DictOfH (tupleKind (ce P w)) a xs:=by
 obtain⟨z,y,xs,r,o,es,ep,h1,h2,h3,h4,h5⟩:=(show ObjOk P w H h a (.dT kvs) from DT ok e)
 refine⟨z,y,xs,r,o,es,ep,h1,h2,h3,h4,fun x hx=> ?_,h5⟩
 have all:∀{l:List (List bJ×V)} {m:List (List bJ×Addr×Value)},KT H l m→∀x∈m,(tupleKind (ce P w)).is h x.1 x.2.1:=by
  intro l m q
  induction q with
  |nil=>intro x hx;exact nomatch hx
  | @cons p q ps qs hq t ih=>
   intro x hx
   rcases List.mem_cons.mp hx with e|hx
   ·subst e
    exact oX ok (by rw[←hq.1];exact hq.2.1)
   ·exact ih x hx
 exact all r x hx
theorem GP {kvs:List (List bJ×V)} (ok:HOk P w H h) (e:H a=some (.dT kvs)):kvs.length≤sizeLine∧(a==sysModules)=false∧
  ∃xs,KT H kvs xs∧h.DictOfH (tupleKind (ce P w)) a xs:=qD ok (.inl e)
end
def DGet (H:Hp) (a:Addr) (y:V) (r:Option V):Prop:=
 (∃kvs k,Rd H a (.dK kvs)∧y=kV k∧r=im kvs k)∨∃kvs k b,Rd H a (.dT kvs)∧y= .ref b∧H b=some (.tup (k.map kV))∧r=im kvs k
def DPut (H:Hp) (a:Addr) (y v:V) (H':Hp):Prop:=
 (∃kvs k,H a=some (.dK kvs)∧y=kV k∧kvs.length<sizeLine∧H'=bL H a (.dK (hU kvs k v)))∨
 ∃kvs k b,H a=some (.dT kvs)∧y= .ref b∧H b=some (.tup (k.map kV))∧kvs.length<sizeLine∧H'=bL H a (.dT (hU kvs k v))
theorem DGet.k {H:Hp} {a:Addr} {kvs:List (bJ×V)} {k:bJ} (e:H a=some (.dK kvs)):DGet H a (kV k) (im kvs k):= .inl ⟨kvs,k,.inl e,rfl,rfl⟩
theorem DPut.k {H:Hp} {a:Addr} {kvs:List (bJ×V)} {k:bJ} {v:V} (e:H a=some (.dK kvs)) (hl:kvs.length<sizeLine):DPut H a (kV k) v (bL H a (.dK (hU kvs k v))):= .inl ⟨kvs,k,e,rfl,hl,rfl⟩
section
variable {X:Cx} {pins:List (Addr×Obj)} {σ:St} {H:Hp} {s:Shared} {a:Addr} {y v:V} {u r:Value} {o:Option V} {A:Around} {E:Value→Shared→Prop}
theorem Inv.big (I:Inv X pins σ H s):sysModules<s.heap.objs.size:=by
 have h:mainGlobals<s.heap.objs.size:=(I.mod.glob.keeps I.bk).lt
 exact Nat.lt_trans (by decide) h
theorem y0 {Q:Value→Shared→Prop} (hu:A.units+1<cLine) (I:Inv X pins σ H s) (g:DGet H a y (some v)) (ry:RelV y u) (h:∀w' s',Inv X pins σ H s'→RelV v w'→Q w' s'):
  wpAny (model X.prog X.w) A (getItem (.ref a) u) Q E s:=by
 rcases g with⟨kvs,k,e,ey,l⟩|⟨kvs,k,b,e,ey,eb,l⟩
 ·subst ey
  obtain⟨z,hd,vs,rel,dd⟩:=qK I.hok e
  obtain⟨w',hw,rw'⟩:=RelO.some_of (v:=v) (o:=valueAt vs k) (by rw[l];exact rel.val k)
  exact wpAny_getItem_of (oG ry) dd.mapOf hw (h w' _ (I.tok _) rw')
 ·subst ey
  cases(show u=Value.ref b from ry)
  obtain⟨z,hd,xs,rel,dd⟩:=qD I.hok e
  obtain⟨w',hw,rw'⟩:=RelO.some_of (v:=v) (o:=(atKey xs k).map (·.2)) (by rw[l];exact rel.val k)
  obtain⟨p,hp,hp2⟩:=Option.map_eq_some_iff.mp hw
  refine wpAny_getItem_heap (tupleKind_room_in1 hu) (oX I.hok eb) dd hp ?_
  rw[hp2]
  exact h w' _ (I.tok _) rw'
theorem HP {Q:Value→Shared→Prop} (hu:A.units+1<cLine) (I:Inv X pins σ H s) (g:DGet H a y o) (ry:RelV y u) (h:∀s',Inv X pins σ H s'→Q (.bool o.isSome) s'):
  wpAny (model X.prog X.w) A (compareOp .In u (.ref a)) Q E s:=by
 rcases g with⟨kvs,k,e,ey,l⟩|⟨kvs,k,b,e,ey,eb,l⟩
 ·subst ey
  obtain⟨z,hd,vs,rel,dd⟩:=qK I.hok e
  refine wpAny_in_of (oG ry) hd dd.mapOf ?_
  rw[←(rel.val k).isSome_eq,←l]
  exact h _ (I.tok _)
 ·subst ey
  cases(show u=Value.ref b from ry)
  obtain⟨z,hd,xs,rel,dd⟩:=qD I.hok e
  refine wpAny_in_heap (tupleKind_room_in1 hu) (oX I.hok eb) hd dd ?_
  have q:=(rel.val k).isSome_eq
  rw[Option.isSome_map] at q
  rw[←q,←l]
  exact h _ (I.tok _)
theorem Cg {Q:Value→Shared→Prop} (hu:A.units+1<cLine) (I:Inv X pins σ H s) (g:DGet H a y o) (ry:RelV y u) (h:∀s',Inv X pins σ H s'→Q (.bool (!o.isSome)) s'):
  wpAny (model X.prog X.w) A (compareOp .NotIn u (.ref a)) Q E s:=by
 rcases g with⟨kvs,k,e,ey,l⟩|⟨kvs,k,b,e,ey,eb,l⟩
 ·subst ey
  obtain⟨z,hd,vs,rel,dd⟩:=qK I.hok e
  refine wpAny_notIn_of (oG ry) hd dd.mapOf ?_
  rw[←(rel.val k).isSome_eq,←l]
  exact h _ (I.tok _)
 ·subst ey
  cases(show u=Value.ref b from ry)
  obtain⟨z,hd,xs,rel,dd⟩:=qD I.hok e
  refine wpAny_notIn_heap (tupleKind_room_in1 hu) (oX I.hok eb) hd dd ?_
  have q:=(rel.val k).isSome_eq
  rw[Option.isSome_map] at q
  rw[←q,←l]
  exact h _ (I.tok _)
theorem rd {h':Heap} {t':Nat} {ob:HO} (I:Inv X pins σ H s) (mu:Gu (H a)) (hs:Heap.SameBut a s.heap h') (he:∃q,h'.get? a=some q) (new:ObjOk X.prog X.w (bL H a ob) h' a ob):
  Inv X pins σ (bL H a ob) {s with heap:=h',toks:=t'}:=
 I.write (x:=a) (e:=a) mu (.inl rfl) (fun b q hb z=>(hs.2 b hb).trans z) he new
theorem vZ {P:Program} {w:World} {H':Hp} {h':Heap} {kvs:List (bJ×V)} {vs:List (bJ×Value)} (z:kvs.length≤sizeLine) (hd:(a==sysModules)=false) (rel:KV kvs vs) (dd:h'.DictOf (ce P w) a vs):
  ObjOk P w H' h' a (.dK kvs):=⟨z,hd,vs,rel,dd⟩
theorem yD {H':Hp} {Q:Unit→Shared→Prop} (hu:A.units+1<cLine) (I:Inv X pins σ H s) (g:DPut H a y v H') (ry:RelV y u) (rv:RelV v r) (h:∀s',Inv X pins σ H' s'→Q () s'):
  wpAny (model X.prog X.w) A (setItem (.ref a) u r) Q E s:=by
 rcases g with⟨kvs,k,e,ey,l,eH⟩|⟨kvs,k,b,e,ey,eb,l,eH⟩
 ·subst ey eH
  obtain⟨z,hd,vs,rel,dd⟩:=ut I.hok e
  have hz:vs.length≤sizeLine:=by rw[←rel.length];exact z
  have hl:(hU kvs k v).length≤sizeLine:=by have:=jp kvs k v;omega
  refine wpAny_setItem_pairs (hsz:=hz) (oG ry) dd fun h' dd' hs=>h _ ?_
  have he:∃q,h'.get? a=some q:=let⟨q,_,_,hq,_⟩:=dd';⟨q,hq⟩
  exact rd I (by rw[e];exact True.intro) hs he (vZ hl hd (rel.put k rv) dd')
 ·subst ey eH
  cases(show u=Value.ref b from ry)
  obtain⟨z,hd,xs,rel,dd⟩:=GP I.hok e
  have hz:xs.length≤sizeLine:=by rw[←Paired.length rel];exact z
  have hl:(hU kvs k v).length≤sizeLine:=by have:=jp kvs k v;omega
  refine wpAny_setItem_heap (hsz:=hz) (tupleKind_room_in1 hu) (oX I.hok eb) dd fun h' dd' hs=>h _ ?_
  obtain⟨q,es,ep,hq,h2,h3,h4,_,h5⟩:=dd'
  refine rd I (by rw[e];exact True.intro) hs ⟨q,hq⟩ ⟨hl,hd,_,(rel.put k eb rv).keeps fun c ys ec=> ?_,q,es,ep,hq,h2,h3,h4,h5⟩
  rw[aX (G0 ec e (fun z=>nomatch z))]
  exact ec
end
section
variable {X:Cx} {pins:List (Addr×Obj)} {σ:St} {H:Hp} {s:Shared} {a:Addr} {kvs:List (bJ×V)} {k:bJ} {u:Value} {A:Around} {E:Value→Shared→Prop}
theorem GU {v:V} {more:List Value} {Q:Value→Shared→Prop} (I:Inv X pins σ H s) (e:H a=some (.dK kvs)) (ry:RelV (kV k) u) (l:im kvs k=some v) (hm:more=[]∨∃x,more=[x])
  (h:∀w' s',Inv X pins σ (bL H a (.dK (lh kvs k))) s'→RelV v w'→Q w' s'):wpAny (model X.prog X.w) A (call (.builtin "dict.pop") (.ref a::u::more)) Q E s:=by
 obtain⟨z,hd,vs,rel,dd⟩:=ut I.hok e
 obtain⟨w',hw,rw'⟩:=RelO.some_of (v:=v) (o:=valueAt vs k) (by rw[←l];exact rel.val k)
 have hp:(keyPart u).isSome=true:=by
  cases k with
  |inl i=>obtain⟨t,q⟩:=(show∃t,u=Value.int i t from ry);subst q;rfl
  |inr x=>obtain⟨t,q⟩:=(show∃t,u=Value.str x t from ry);subst q;rfl
 have ha:argsOk "dict.pop" ⟨.ref a::u::more,[]⟩:=by
  rcases hm with q|⟨x,q⟩
  ·subst q;exact PySem.F.args_dict_pop_2 _ _
  ·subst q;exact PySem.F.args_dict_pop_3 _ _ _
 refine call_meetsIn PySem.F.slot_dict_pop dd.typeIs PySem.F.entry_dict_pop ha (meets_dict_pop_there (ce X.prog X.w) a (oG ry) more hm hp)
  ⟨vs,w',dd,by rw[←rel.length];exact z,hw,fun h' dd' hs=>h w' _ ?_ rw'⟩
 have he:∃q,h'.get? a=some q:=let⟨q,_,_,hq,_⟩:=dd';⟨q,hq⟩
 exact rd I (by rw[e];exact True.intro) hs he (vZ (Nat.le_trans (z5 kvs k) z) hd (rel.drop k) dd')
end
def Gp (i:Expr):Prop:=∀ov iv,subscripted i false ov iv=operate [ov,iv] (getItem ov iv)
theorem CF {prog:Program} {w:World} {A:Around} {E:Value→Shared→Prop} {s:Shared} {env:Env} {value slice:Expr} {pos:Pos} {T id:String} {Q:Value→Shared→Prop}
  (hl:typeLookup (.type T) "__getitem__"=pure (some (.builtin id))) (hs:Gp slice)
  (h:wpAny (model prog w) A (eval value env) (fun o s₁=>wpAny (model prog w) A (eval slice env) (fun i s₂=>s₂.TypeIs o T∧wpAny (model prog w) A (getItem o i) Q E s₂) E s₁) E s):
  wpAny (model prog w) A (eval (.Subscript value slice pos) env) Q E s:=by
 refine Subscript_ (wpAny_mono h (fun o s₁ h₁=>wpAny_mono h₁ (fun i s₂ h₂=> ?_) fun _ _ x=>x) fun _ _ x=>x)
 obtain⟨hT,h₂⟩:=h₂
 unfold subscriptTail
 refine wpAny_bind ?_
 rw[getitemInPython_of_ne hT.not_modules]
 refine wpAny_bind (wpAny_specialOf hT hl ?_)
 have fin:wpAny (model prog w) A (subscripted slice false o i) (fun r s₃=>wpAny (model prog w) A (letTemporaryGo value o r>>=fun _=>pure r) Q E s₃) E s₂:=by
  rw[hs o i]
  exact wpAny_operating (wpAny_mono h₂ (fun r s₃ h₃=>wpAny_bind (wpAny_letTemporaryGo (wpAny_pure h₃))) fun _ _ x=>x)
 first
  |exact wpAny_pure (wpAny_bind fin)
  |exact wpAny_bind (wpAny_pure (wpAny_bind fin))
  |exact wpAny_bind fin
theorem tV {X:Cx} {pins:List (Addr×Obj)} {σ:St} {H:Hp} {s:Shared} {a:Addr} {y:V} {o:Option V} (I:Inv X pins σ H s) (g:DGet H a y o):s.TypeIs (.ref a) "dict":=by
 rcases g with⟨kvs,k,e,_,_⟩|⟨kvs,k,b,e,_,_,_⟩
 ·obtain⟨_,_,vs,_,dd⟩:=qK I.hok e
  exact dd.typeIs
 ·obtain⟨_,_,xs,_,dd⟩:=qD I.hok e
  exact dd.typeIs
def DR (td ty:TE):TE:=fun σ H Q=>td σ H fun x H1=>ty σ H1 fun y H2=>∃a v,x= .ref a∧DGet H2 a y (some v)∧Q v H2
def GG (ty td:TE):TE:=fun σ H Q=>ty σ H fun y H1=>td σ H1 fun x H2=>∃a o,x= .ref a∧DGet H2 a y o∧Q (.bl o.isSome) H2
def yi (ty td:TE):TE:=fun σ H Q=>ty σ H fun y H1=>td σ H1 fun x H2=>∃a o,x= .ref a∧DGet H2 a y o∧Q (.bl (!o.isSome)) H2
def DZ (td ty tv:TE):TS:=fun D σ H=>tv σ H fun v H1=>td σ H1 fun x H2=>ty σ H2 fun y H3=>∃a H4,x= .ref a∧DPut H3 a y v H4∧D.nx σ H4
section
variable {X:Cx} {o i e value:Expr} {pos pos' tpos:Pos} {td ty tv:TE}
theorem xo (hu:X.A.units+1<cLine) (ho:PE X o td) (hi:PE X i ty) (hs:Gp i):PE X (.Subscript o i pos) (DR td ty):=by
 intro pins s σ H Q I h
 refine CF PySem.F.slot_dict_getitem.lookup hs (dH (ho pins s σ H _ I h) fun u s1 ⟨x,H1,I1,rx,q1⟩=>dH (hi pins s1 σ H1 _ I1 q1) fun iv s2 ⟨y,H2,I2,ry,a,v,ex,g,q2⟩=> ?_)
 subst ex
 obtain rfl:u=Value.ref a:=rx
 exact⟨tV I2 g,y0 hu I2 g ry fun w' s3 I3 rw'=>⟨v,H2,I3,rw',q2⟩⟩
theorem vq (hu:X.A.units+1<cLine) (hi:PE X i ty) (ho:PE X o td):PC X .In i o (GG ty td):=by
 intro pins s σ H Q I h
 refine dH (hi pins s σ H _ I h) fun iv s1 ⟨y,H1,I1,ry,q1⟩=>dH (ho pins s1 σ H1 _ I1 q1) fun u s2 ⟨x,H2,I2,rx,a,ov,ex,g,q2⟩=> ?_
 subst ex
 obtain rfl:u=Value.ref a:=rx
 exact HP hu I2 g ry fun s3 I3=>⟨.bl ov.isSome,H2,I3,rfl,q2⟩
theorem zb (hu:X.A.units+1<cLine) (hi:PE X i ty) (ho:PE X o td):PC X .NotIn i o (yi ty td):=by
 intro pins s σ H Q I h
 refine dH (hi pins s σ H _ I h) fun iv s1 ⟨y,H1,I1,ry,q1⟩=>dH (ho pins s1 σ H1 _ I1 q1) fun u s2 ⟨x,H2,I2,rx,a,ov,ex,g,q2⟩=> ?_
 subst ex
 obtain rfl:u=Value.ref a:=rx
 exact Cg hu I2 g ry fun s3 I3=>⟨.bl (!ov.isSome),H2,I3,rfl,q2⟩
theorem xw (hu:X.A.units+1<cLine) (ho:PE X o td) (hi:PE X i ty) (hv:PE X value tv) (hs:swapsWith value (some (.Subscript o i pos')) pos.line X.env=pure false):
  PS X (.Assign [.Subscript o i pos'] value pos) (DZ td ty tv):=by
 intro pins s σ H D I h
 refine wpAny_Assign_Subscript (dH (hv pins s σ H _ I h) fun r s1 ⟨v,H1,I1,rv,q1⟩=>dH (ho pins s1 σ H1 _ I1 q1) fun u s2 ⟨x,H2,I2,rx,q2⟩=>dH (hi pins s2 σ H2 _ I2 q2) fun iv s3 ⟨y,H3,I3,ry,a,H4,ex,g,q3⟩=> ?_) hs
 subst ex
 obtain rfl:u=Value.ref a:=rx
 exact yD hu I3 g ry rv fun s4 I4=>⟨σ,H4,I4,q3⟩
end
theorem A4 {P:Program} {w:World} {H:Hp} (h:Heap) (hb:sysModules<h.objs.size):ObjOk P w H (h.push {cls:= .type "dict",data:= .dict #[]}) h.objs.size (.dK []):=
 ⟨Nat.zero_le _,beq_eq_false_iff_ne.mpr (Ne.symm (Nat.ne_of_lt hb)),[],.nil,Heap.DictOf.new h⟩
def zF:TE:=fun _ H Q=>∀p,H p=none→Q (.ref p) (bL H p (.dK []))
section
variable {X:Cx} {pos:Pos}
theorem Al:PE X (.Dict [] [] pos) zF:=fun pins s σ H Q I h=>
 wpAny_Dict_empty ⟨.ref s.heap.objs.size,_,I.laid (a:=s.heap.objs.size) (o:= .dK []) (t':=s.toks) (fun _ _ q=>Heap.get?_push_of_some _ q) (Nat.le_refl _) (A4 s.heap I.big),rfl,h _ (I.hok.fresh (Nat.le_refl _))⟩
end
noncomputable def kc (kvs more:List (bJ×V)):List (bJ×V):=more.foldl (fun acc kv=>hU acc kv.1 kv.2) kvs
theorem KV.merge:∀{more:List (bJ×V)} {rs:List (bJ×Value)} {kvs:List (bJ×V)} {vs:List (bJ×Value)},KV more rs→KV kvs vs→KV (kc kvs more) (merged vs rs):=by
 intro more rs kvs vs r
 unfold KV at r
 induction r generalizing kvs vs with
 |nil=>intro q;exact q
 | @cons p q ps qs h t ih=>
  intro r0
  have e:KV (hU kvs p.1 p.2) (stored vs q.1 q.2):=by
   have:=r0.put p.1 h.2
   rw[←h.1];exact this
  exact ih e
theorem jY:∀(more kvs:List (bJ×V)),(kc kvs more).length≤kvs.length+more.length
 |[],kvs=>by show kvs.length≤kvs.length+0;omega
 |p::r,kvs=>by
  have h1:=jY r (hU kvs p.1 p.2)
  have h2:=jp kvs p.1 p.2
  show(kc (hU kvs p.1 p.2) r).length≤_
  rw[List.length_cons];omega
structure M1 (X:Cx) (o:Expr) (m:Str) (apos:Pos) (e:Expr) (cpos:Pos):Prop where
 base:attributeBase o m X.env (eval o X.env)=eval o X.env
 few:((backTo cpos (starEach [e] X.env)).all (fun x=> !x.1)&&(backToKw cpos (keywordEach [] X.env)).all (fun x=>x.1.isSome)
  &&decide (([e]:List Expr).length+([]:List Keyword).length+(if([]:List Keyword).isEmpty then 0 else 1)<30))=true
 line:(apos.endLine==cpos.line)=true
 trees:backTo cpos (starEach [e] X.env)=[(false,eval e X.env)]
structure M2 (X:Cx) (o:Expr) (m:Str) (apos:Pos) (e f:Expr) (cpos:Pos):Prop where
 base:attributeBase o m X.env (eval o X.env)=eval o X.env
 few:((backTo cpos (starEach [e,f] X.env)).all (fun x=> !x.1)&&(backToKw cpos (keywordEach [] X.env)).all (fun x=>x.1.isSome)
  &&decide (([e,f]:List Expr).length+([]:List Keyword).length+(if([]:List Keyword).isEmpty then 0 else 1)<30))=true
 line:(apos.endLine==cpos.line)=true
 trees:backTo cpos (starEach [e,f] X.env)=[(false,eval e X.env),(false,eval f X.env)]
def Ii (H:Hp) (a:Addr):Prop:=(∃kvs,Rd H a (.dK kvs))∨∃kvs,Rd H a (.dT kvs)
theorem EK {X:Cx} {pins:List (Addr×Obj)} {σ:St} {H:Hp} {s:Shared} {a:Addr} (I:Inv X pins σ H s) (d:Ii H a):
  s.TypeIs (.ref a) "dict"∧(∀b,Value.ref a= .ref b→∃ob,s.heap.get? b=some ob∧ob.dict=none)∧(a==sysModules)=false:=by
 rcases d with⟨kvs,e⟩|⟨kvs,e⟩
 ·obtain⟨_,hd,vs,_,dd⟩:=qK I.hok e
  refine⟨dd.typeIs,fun b q=> ?_,hd⟩
  cases q
  obtain⟨ob,_,_,h1,h2,_⟩:=dd
  exact⟨ob,h1,h2.2.1⟩
 ·obtain⟨_,hd,xs,_,dd⟩:=qD I.hok e
  refine⟨dd.typeIs,fun b q=> ?_,hd⟩
  cases q
  obtain⟨ob,_,_,h1,h2,_⟩:=dd
  exact⟨ob,h1,h2.2.1⟩
section
variable {X:Cx} {pins:List (Addr×Obj)} {σ:St} {H:Hp} {s:Shared} {a:Addr} {y d:V} {u r:Value} {o:Option V} {A:Around} {E:Value→Shared→Prop}
end
def A3 (td ty:TE):TE:=fun σ H Q=>td σ H fun x H1=>∃a,x= .ref a∧Ii H1 a∧ty σ H1 fun y H2=>∃kvs k v,H2 a=some (.dK kvs)∧y=kV k∧im kvs k=some v∧Q v (bL H2 a (.dK (lh kvs k)))
section
variable {X:Cx} {o e f:Expr} {apos cpos:Pos} {td ty tx:TE}
theorem u7 (ho:PE X o td) (he:PE X e ty) (m:M1 X o "pop" apos e cpos):PE X (.Call (.Attribute o "pop" apos) [e] [] cpos) (A3 td ty):=by
 intro pins s σ H Q I h
 refine wpAny_Call_method m.base m.few m.line PySem.F.plainAttrs_dict PySem.F.slot_dict_pop PySem.F.type_dict_pop (dH (ho pins s σ H _ I h) fun u s1 ⟨x,H1,I1,rx,a,ex,d,q1⟩=> ?_)
 subst ex
 obtain rfl:u=Value.ref a:=rx
 obtain⟨t1,t2,_⟩:=EK I1 d
 refine⟨t1,t2,?_⟩
 rw[m.trees]
 refine Calls.callWith_builtin rfl (Calls.evalArgs_plain (Calls.spliced_cons (dH (he pins s1 σ H1 _ I1 q1) fun iv s2 ⟨y,H2,I2,ry,kvs,k,v,ea,ey,l,q2⟩=>Calls.spliced_nil ?_)))
 subst ey
 exact GU I2 ea ry l (.inl rfl) fun w' s3 I3 rw'=>⟨v,_,I3,rw',q2⟩
end
section
variable {X:Cx} {pins:List (Addr×Obj)} {σ:St} {H:Hp} {s:Shared} {a:Addr} {kvs:List (bJ×V)} {A:Around} {E:Value→Shared→Prop}
end
section
variable {X:Cx} {pins:List (Addr×Obj)} {σ:St} {H:Hp} {s:Shared} {a:Addr} {y:V} {u:Value} {A:Around} {E:Value→Shared→Prop}
end
end L2
namespace L2
open PySem PySem.Spec PyProof.Rows
section
variable {X:Cx}
end
section
variable {κ:Type} [DecidableEq κ]
end
end L2
namespace HT
open PySem PySem.Spec PyProof.Rows PySem.Calls
section
variable {prog:Program} {w:World} {A:Around} {E:Value→Shared→Prop} {s:Shared}
end
end HT
namespace L2
open PySem PySem.Spec PyProof.Rows
end L2
namespace PySem
open Sem (wp)
open Builtin
open AutoSeq1 (wpAny_loadPart')
end PySem
namespace L3
open PySem PySem.Spec PyProof.Rows L2
end L3
namespace L4
open PySem PySem.Spec PyProof.Rows L2 L3
structure Lft (l:List Env) (e:Addr) (hd:Option Addr) (h h':Heap):Prop where
 keep:∀b o,h.get? b=some o→b≠e→hd≠some b→b∉zh l→h'.get? b=some o
 slot:∀b o,h.get? b=some o→b≠e→hd≠some b→∃sl,h'.get? b=some {o with slots:=sl}
 here:∀b o,h.get? b=some o→∃o',h'.get? b=some o'
section
variable {M:Model} {A:Around} {E:Value→Shared→Prop} {s:Shared}
end
end L4
namespace L4
open PySem PySem.Spec PyProof.Rows L2 L3
section
variable {M:Model} {A:Around} {E:Value→Shared→Prop} {s:Shared}
end
section
variable {P:Program} {w:World} {K:PySem.W.Frag} {mg:Str→Option Value} {base:Heap} {N:List Str} {qual:Str} {scope:Scope} {f:Addr} {cd:Value} {A:Around} {outer:List Env} {s0:Shared} {H0:Hp} {E:XK} {CX:wz}
  {σ:L2.St} {H:Hp} {s:Shared} {h':Heap} {X:Cx}
end
end L4
namespace L4
open PySem PySem.Spec PyProof.Rows L2 L3
section
variable {M:Model} {A:Around} {E:Value→Shared→Prop} {h:Heap} {g:Array GenState} {d:Drawn} {t:Nat} {os:OsState}
end
section
variable {X:Cx} {σ:L2.St} {H:Hp} {s:Shared} {h':Heap} {e:Addr}
end
def Gr (K:PySem.W.Frag) (C:Addr) (m:List Value):Prop:=∃nm q N bs hd sn sub ab col dd k0 k1 k2 k3 k5 id,K.lookup C=some (excClassObj nm q C N bs m hd sn sub ab col dd k0 k1 k2 k3 k5 id)
structure Apart (X:Cx) (a:Addr):Prop where
 n0:X.s₀.heap.get? a=none
 nL:a≠X.env.locals
 nC:∀y c,X.env.cells.lookup y=some c→c≠a
 nP:∀p∈X.pn,p.1≠a
end L4
namespace L4
open PySem PySem.Spec L2 L3
end L4
namespace L4
open PySem PySem.Spec PySem.W PyProof.Rows L2 L3
section
variable {prog:Program} {w:World} {A:Around} {E:Value→Shared→Prop} {h:Heap} {g:Array GenState} {d:Drawn} {t:Nat} {os:OsState} {a C:Addr} {o:Obj} {K:PySem.W.Frag}
  {n1 q1:Str} {N1:Addr} {b1 m1:List Value} {d1:Bool} {s1:List Str} {u1:List Value} {a1:Bool} {c1:Option Bool} {x1:Option Addr} {i0 i1 i2 i3 i5:Option Value} {id1:String}
structure ExLook (K:PySem.W.Frag) (C:Addr) (m:List Value):Prop where
 cl:Gr K C m
 be:m.contains (.type "BaseException")=true
 ga:findIn K (.ref C) "__getattribute__"=some (some (.builtin "BaseException.__getattribute__"))
 gt:findIn K (.ref C) "__getattr__"=some none
 cs:findIn K (.ref C) "__class__"=some (some (.builtin "object.__class__"))
 ob:mroIn K C (.type "object")=some true
end
end L4
namespace L4
open PySem PySem.SeqAt PySem.Spec PySem.W PyProof.Rows L2 L3
section
variable {X:Cx}
end
end L4
namespace L4
open PySem PySem.Spec PySem.W PyProof.Rows L2 L3
end L4
namespace PySem
open Sem (wp)
open PyProof.Rows
section
variable {prog:Program} {w:World} {A:Around} {E:Value→Shared→Prop} {s:Shared} {t:Addr} {xs:Array (Int×Tok)}
end
end PySem
namespace L3
open PySem PySem.Spec PyProof.Rows L2
noncomputable def vg:List Int→Int
 |[]=>0
 |[a]=>a
 |a::r=>if vg r≤a then a else vg r
theorem vE:∀{ns:List Int},0<ns.length→vg ns∈ns∧∀i,i∈ns→i≤vg ns
 |[a],_=>⟨List.mem_cons_self,fun i h=>by rw[List.mem_singleton.mp h];exact Int.le_refl _⟩
 |a::b::r,_=>by
  obtain⟨h1,h2⟩:=vE (ns:=b::r) (by rw[List.length_cons];omega)
  show(if vg (b::r)≤a then a else vg (b::r))∈a::b::r∧∀i,i∈a::b::r→i≤(if vg (b::r)≤a then a else vg (b::r))
  by_cases q:vg (b::r)≤a
  ·rw[if_pos q]
   refine⟨List.mem_cons_self,fun i h=> ?_⟩
   rcases List.mem_cons.mp h with z|z
   ·omega
   ·have:=h2 i z;omega
  ·rw[if_neg q]
   refine⟨List.mem_cons_of_mem _ h1,fun i h=> ?_⟩
   rcases List.mem_cons.mp h with z|z
   ·omega
   ·exact h2 i z
end L3
namespace HT
open PySem PySem.Spec PyProof.Rows
section
variable {prog:Program} {w:World} {A:Around} {E:Value→Shared→Prop} {s:Shared}
end
end HT
namespace L3
open PySem PySem.Spec PyProof.Rows L2
end L3
namespace L3
open PySem PySem.Spec PyProof.Rows L2
section
variable {K:PySem.W.Frag} {E:XK}
open Classical in
end
end L3
namespace L9
open PySem PySem.Spec PyProof.Rows
section
variable {M:Model} {A:Around} {E:Value→Shared→Prop} {env:Env}
variable {nm q:Str} {C N:Addr} {bs bm:List Value} {hdct:Bool} {sn:List Str} {sub:List Value} {ab:Bool} {col:Option Bool} {dd:Option Addr} {k0 k1 k2 k3 k5:Option Value} {newId:String}
end
section
variable {prog:Program} {w:World} {A:Around} {E:Value→Shared→Prop} {h:Heap} {g:Array GenState} {d:Drawn} {t:Nat} {os:OsState}
variable {nm q:Str} {C N:Addr} {bs bm bmB:List Value} {hdct:Bool} {sn:List Str} {sub:List Value} {ab:Bool} {col:Option Bool} {dd:Option Addr} {k0 k1 k2 k3 k5:Option Value} {B Bn newId nid initId inN:String} {bmN:List Value}
end
section
variable {prog:Program} {w:World} {A:Around} {E:Value→Shared→Prop} {s:Shared} {env:Env}
variable {nm q:Str} {C N:Addr} {bs bm bmB:List Value} {hdct:Bool} {sn:List Str} {sub:List Value} {ab:Bool} {col:Option Bool} {dd:Option Addr} {k0 k1 k2 k3 k5:Option Value} {B Bn newId nid initId inN:String} {bmN:List Value}
end
end L9
namespace L9
open PySem PySem.W PyProof.Rows Builtin Builtin.ObjectAttr
noncomputable abbrev Ic:List Value:=[.type "ValueError",.type "Exception",.type "BaseException",.type "object"]
section
variable {prog:Program} {w:World} {A:Around} {K:Frag} {B C x:Addr} {s:Shared} {R:Result→Shared→Prop} {cd:ClassData} {name:Str} {tk:Tok} {v:Value} {fs:Array Value}
end
section
variable {prog:Program} {w:World} {A:Around} {E:Value→Shared→Prop} {h:Heap} {g:Array GenState} {d:Drawn} {t:Nat} {os:OsState}
variable {nm q:Str} {C N:Addr} {bs bm bmB:List Value} {hdct:Bool} {sn:List Str} {sub:List Value} {ab:Bool} {col:Option Bool} {dd:Option Addr} {k0 k1 k2 k3 k5:Option Value} {B newId nid initId:String}
end
end L9
namespace L9
open PySem PySem.Spec PyProof.Rows L2
section
variable {X:Cx} {e:Expr} {es:List Expr} {n:Nat} {te:TE} {t:L2.St→Hp→(Hp→Prop)→Prop} {pos:Pos}
end
end L9
namespace L9
open PySem PySem.Spec PyProof.Rows L2
structure XC (K:PySem.W.Frag) (C B fI:Addr):Prop where
 obj:∃nm q N bs sn sub ab col dd k0 k1 k2 k3 k5,K.lookup C=some (excClassObj nm q C N bs (.ref B::Ic) true sn sub ab col dd k0 k1 k2 k3 k5 "ValueError.__new__")∧PySem.W.nsOkIn K N=true∧PySem.W.nsIn K N "__init__"=some (some (.ref fI))
 base:PySem.W.excIn K B Ic "ValueError.__new__"=true
 sa:PySem.W.findIn K (.ref C) "__setattr__"=some (some (.builtin "object.__setattr__"))
section
variable {X:Cx} {B C fI:Addr} {pos p1 p2:Pos} {a1:Expr} {as:List Expr} {t:TA} {b:Str}
end
end L9
namespace L9
open PySem PySem.Spec PyProof.Rows L2 L4
section
variable {X:Cx} {pins:List (Addr×Obj)} {σ:L2.St} {H:Hp} {s:Shared} {h':Heap} {e:Addr} {o:HO}
end
end L9
namespace L9
open PySem PySem.Spec PySem.W PyProof.Rows L2 L3 L4
section
variable {prog:Program} {w:World} {A:Around} {E:Value→Shared→Prop} {h:Heap} {g:Array GenState} {d:Drawn} {t:Nat} {os:OsState} {a C:Addr} {o:Obj} {K:PySem.W.Frag} {od:Option Obj} {name:Str} {v:Value}
  {n1 q1:Str} {N1:Addr} {b1 m1:List Value} {d1:Bool} {s1:List Str} {u1:List Value} {a1:Bool} {c1:Option Bool} {x1:Option Addr} {i0 i1 i2 i3 i5:Option Value} {id1:String}
end
end L9
namespace L3
open PySem PySem.Spec PyProof.Rows L2
mutual
noncomputable def HX:PyData→Bool
 | .tuple ds=>Fj ds
 | .int _=>true
 | .str _=>true
 | .bool _=>true
 | .none=>true
 |_=>false
noncomputable def Fj:List PyData→Bool
 |[]=>true
 |d::r=>HX d&&Fj r
end
section
variable {K:PySem.W.Frag} {E:XK} {B:b6} {H0:Hp} {O B':b6} {σ:L2.St} {H H':Hp} {ρ:aV}
theorem Cm {a:Addr} {xs ys:List V} (h:SqT K H a xs) (l:H a=some (.lst ys)):SqT K (fun _=>none) a xs:=by
 rcases h with(h|⟨o,h⟩)|h
 ·rw[l] at h;cases h
 ·rw[l] at h;cases h
 ·exact .inr h
mutual
theorem Ci (hO:∀b,O b→¬B' b→∃ys,H b=some (.lst ys)):∀{v:V} {d:D},DV B' K H v d→HX d=true→DV O K H v d
 |_,_,.non,_=> .non
 |_,_,.bl b,_=> .bl b
 |_,_,.int i,_=> .int i
 |_,_,.str x,_=> .str x
 |_,_,.tup (a:=a) h hs,e=> .tup ⟨h.1,fun z=>by
   by_cases y:B' a
   ·exact h.2 y
   ·obtain⟨ys,q⟩:=hO a z y
    exact Cm h.1 q⟩ (uL hO hs e)
 |_,_,.lst h hs,e=>by cases e
theorem uL (hO:∀b,O b→¬B' b→∃ys,H b=some (.lst ys)):∀{vs:List V} {ds:List D},DVs B' K H vs ds→Fj ds=true→DVs O K H vs ds
 |_,_,.nil,_=> .nil
 |_,_,.cons h hs,e=>by
  have e':=Bool.and_eq_true_iff.mp e
  exact .cons (Ci hO h e'.1) (uL hO hs e'.2)
end
end
end L3
namespace PySem
section
variable {prog:Program} {w:World} {A:Around} {E:Value→Shared→Prop} {s:Shared}
end
section
variable {prog:Program} {w:World} {A:Around} {E:Value→Shared→Prop} {s:Shared}
end
end PySem
namespace PyProof.Rows
open PySem
section
variable {prog:Program} {w:World} {A:Around} {E:Value→Shared→Prop} {s:Shared}
theorem pf {h:Heap} {a:Addr} {vs:List Value} {out:Array Value} {n:Nat} (ho:h.get? a=some (seqObj "list" vs.toArray n)):∃e,(sortedHeap h a vs out).get? a=some (seqObj "list" out e):=by
 have h1:=get?_update_seq ho (fun _=> #[])
 exact⟨_,get?_update_seq (Heap.get?_push_of_some _ (Heap.get?_push_of_some _ h1)) _⟩
theorem mz {h:Heap} {a b:Addr} {vs:List Value} {out:Array Value} {o:Obj} (hb:b≠a) (e:h.get? b=some o):(sortedHeap h a vs out).get? b=some o:=
 (Heap.get?_update_other _ _ (Ne.symm hb)).trans (Heap.get?_push_of_some _ (Heap.get?_push_of_some _ ((Heap.get?_update_other _ _ (Ne.symm hb)).trans e)))
theorem wx {l:Addr} {vs:List Value} {ns:List Int} {Q:Value→Shared→Prop} (ht:s.heap.IsTuple l vs.toArray) (hI:IntsAre vs ns) (h64:vs.length<64)
  (h:∀(h1 h':Heap) (out:Array Value) (e:Nat) (ms:List Int),(∀b o,s.heap.get? b=some o→h1.get? b=some o)→h'.get? h1.objs.size=some (seqObj "list" out e)→(∀b o,h1.get? b=some o→h'.get? b=some o)→IntsAre out.toList ms→ms.Perm ns→ms.Pairwise (·≤·)→Q (.ref h1.objs.size) {s with heap:=h'}):
  wpAny (model prog w) A (call (.builtin "sorted") [.ref l]) Q E s:=by
 obtain⟨o,ho,hc,n,hd⟩:=ht
 refine Calls.call_function_entry kind_sorted plain_sorted entry_sorted (args_sorted1 _) (wpAny_bind (m:=checkCount "sorted" 1 1 _) (wpAny_pure (wpAny_bind (wpAny_collect_seq l (.inr rfl) ho hc hd (fun h1 hk=>wpAny_bind (wpAny_newList ?_)) (by rw[List.size_toArray,sizeLine_eq];omega)))))
 have hL:(h1.push (seqObj "list" vs.toArray 0)).get? h1.objs.size=some (seqObj "list" vs.toArray 0):=Heap.get?_push_size _ rfl
 refine wpAny_bind (wpAny_holding (wpAny_call_entry slot_list_sort ⟨_,hL,rfl⟩ entry_list_sort (list_sort_tree hL hI h64 fun out ms a1 a2 a3=>⟨_,rfl,wpAny_pure ⟨_,rfl,?_⟩⟩) (args_list_sort _)))
 obtain⟨e,he⟩:=pf (out:=out) hL
 exact h h1 _ out e ms hk he (fun b o' z=>mz (Nat.ne_of_lt (Heap.lt_size z)) (Heap.get?_push_of_some _ z)) a1 a2 a3
end
end PyProof.Rows
namespace L9
open PySem PySem.Spec PyProof.Rows L2 L3
section
variable {K:PySem.W.Frag} {E:XK}
theorem rM {X:Cx}:CallR X (.builtin "sorted") (fun xs H Q=>∃(p:Addr) (ns:List Int),xs=[.ref p]∧SqT X.K H p (ns.map V.int)∧ns.length<64∧∀(l:Addr) (ms:List Int),H l=none→ms.Perm ns→ms.Pairwise (·≤·)→Q (.ref l) (bL H l (.lst (ms.map V.int)))):=by
 intro pins s σ H xs us Q I r h
 obtain⟨p,ns,rfl,hq,h64,q⟩:=h
 obtain⟨u,rfl,ru⟩:=iR r
 cases ru
 obtain⟨its,rv,pl,hz⟩:=I.tuple hq
 have hl:=rv.length
 rw[List.length_map] at hl
 refine wx pl (iw rv) (by omega) fun h1 h' out e ms hk he hk2 hi hp hs=> ?_
 have hlen:ms.length=ns.length:=hp.length_eq
 have I1:Inv X pins σ H {s with heap:=h1}:=I.kept (t':=s.toks) hk
 refine⟨.ref h1.objs.size,_,I1.laid (t':=s.toks) (o:= .lst (ms.map V.int)) hk2 (Nat.le_refl _) ?_,rfl,q _ ms (I1.hok.fresh (Nat.le_refl _)) hp hs⟩
 refine⟨?_,out.toList,e,h8 hi,he⟩
 rw[List.length_map,hlen]
 have:(64:Nat)≤sizeLine:=by decide
 omega
theorem rV {X:Cx}:CallR X (.builtin "sorted") (fun xs H Q=>(∃(p:Addr) (ns:List Int),xs=[.ref p]∧SqL X.K H p (ns.map V.int)∧ns.length<64∧∀(l:Addr) (ms:List Int),H l=none→ms.Perm ns→ms.Pairwise (·≤·)→Q (.ref l) (bL H l (.lst (ms.map V.int))))∨
  (∃(p:Addr) (ns:List Int),xs=[.ref p]∧SqT X.K H p (ns.map V.int)∧ns.length<64∧∀(l:Addr) (ms:List Int),H l=none→ms.Perm ns→ms.Pairwise (·≤·)→Q (.ref l) (bL H l (.lst (ms.map V.int))))):=L2.CallR.or um rM
noncomputable def gj:List D→Option RV
 |[.tuple ds]=>(match i4 ds with
  |some ns=>if ns.length<64 then some (.ow ((gH ns).map .int)) else none
  |none=>none)
 |ds=>rH ds
theorem wm:BO K (fun xs H Q=>(∃(p:Addr) (ns:List Int),xs=[.ref p]∧SqL K H p (ns.map V.int)∧ns.length<64∧∀(l:Addr) (ms:List Int),H l=none→ms.Perm ns→ms.Pairwise (·≤·)→Q (.ref l) (bL H l (.lst (ms.map V.int))))∨
  (∃(p:Addr) (ns:List Int),xs=[.ref p]∧SqT K H p (ns.map V.int)∧ns.length<64∧∀(l:Addr) (ms:List Int),H l=none→ms.Perm ns→ms.Pairwise (·≤·)→Q (.ref l) (bL H l (.lst (ms.map V.int))))) gj:=by
 intro O H xs ds rv Q n hp e q
 unfold gj at e
 split at e
 ·split at e
  ·rename_i ns hs
   split at e
   ·rename_i hn
    cases e
    cases hp with
    |cons h1 h2=>
     cases h2
     obtain⟨a,vs,rfl,g1,g2⟩:=AQ h1
     rw[kS g2 hs] at g1
     refine .inr ⟨a,ns,rfl,g1.1,hn,fun l ms hl hpm d8=> ?_⟩
     have e2:ms=gH ns:=jK (hpm.trans (eR ns).symm) d8 (eE ns)
     subst e2
     exact q.new (oU _) l hl
   ·cases e
  ·cases e
 ·exact .inl (yz O H xs ds rv Q n hp e q)
end
end L9
namespace L9
open PySem PySem.W PyProof.Rows Builtin Builtin.ObjectAttr
section
variable {prog:Program} {w:World} {A:Around} {K:Frag} {B C x p:Addr} {s:Shared} {R:Result→Shared→Prop} {cd:ClassData} {name:Str} {tk:Tok} {v:Value} {fs:Array Value} {m:Str→Option Value} {ns:List Str}
end
open PySem.Spec L2
section
variable {X:Cx} {B C fI:Addr} {pos:Pos}
end
open L3 L4
end L9
namespace L10
open PySem L2 L3
inductive AV where
 |fz (d:D)
 |rf (i:Nat)
inductive SV where
 |fz (d:D)
 |rf (i:Nat)
 |tp (l:List AV)
noncomputable def AV.sv:AV→SV
 | .fz d=> .fz d
 | .rf i=> .rf i
inductive Cell where
 |lst (xs:List SV)
 |dct (kvs:List (bJ×SV))
 |obj (C:Str) (fs:List (Str×SV))
 |dead
abbrev bz:=List Cell
abbrev cg:=List (Option SV)
inductive RS (α:Type) where
 |ok (a:α) (ω:bz)
 |er (x:Xc) (ω:bz)
 |bad
noncomputable def RS.bind {α β:Type} (r:RS α) (f:α→bz→RS β):RS β:=match r with
 | .ok a ω=>f a ω
 | .er x ω=> .er x ω
 | .bad=> .bad
noncomputable def RS.ofO {α:Type} (ω:bz):Option α→RS α
 |some a=> .ok a ω
 |none=> .bad
theorem RS.bind_ok {α β:Type} (a:α) (ω:bz) (f:α→bz→RS β):(RS.ok a ω).bind f=f a ω:=rfl
noncomputable def Lv (α:List Addr) (ω:bz):b6:=fun b=>∃(i:Nat) (c:Cell),α[i]? =some b∧ω[i]? =some c∧c≠Cell.dead
noncomputable def ow (B:b6) (α:List Addr) (ω:bz):b6:=fun b=>B b∨Lv α ω b
section
variable (O:b6) (K:PySem.W.Frag) (H:Hp) (α:List Addr)
def AOk (v:V):AV→Prop
 | .fz d=>DV O K H v d
 | .rf i=>∃a,α[i]? =some a∧v= .ref a
def VOk (v:V):SV→Prop
 | .fz d=>DV O K H v d
 | .rf i=>∃a,α[i]? =some a∧v= .ref a
 | .tp l=>∃a xs,v= .ref a∧SqTO O K H a xs∧Paired (AOk O K H α) xs l
noncomputable abbrev VsOk:List V→List SV→Prop:=Paired (VOk O K H α)
def COk (a:Addr):Cell→Prop
 | .lst xs=>∃vs,H a=some (.lst vs)∧VsOk O K H α vs xs
 | .dct kvs=>∃ws:List (bJ×V),H a=some (.dK ws)∧Paired (fun(p:bJ×V) (q:bJ×SV)=>p.1=q.1∧VOk O K H α p.2 q.2) ws kvs
 | .obj C fs=>∃Ca dx ws,PySem.W.nsIn K mainGlobals C=some (some (.ref Ca))∧H a=some (.ins Ca dx ws)∧Paired (fun(p:Str×V) (q:Str×SV)=>p.1=q.1∧VOk O K H α p.2 q.2) ws fs
 | .dead=>True
def SlOk (σ:L2.St) (ρ:cg):Prop:=σ.length=ρ.length∧∀(i:Nat) (x:SV),ρ[i]? =some (some x)→∃v,σ[i]? =some (some v)∧VOk O K H α v x
end
structure StoOk (B:b6) (K:PySem.W.Frag) (H:Hp) (α:List Addr) (ω:bz):Prop where
 len:α.length=ω.length
 nd:∀(i j:Nat) (a:Addr),α[i]? =some a→α[j]? =some a→i=j
 bn:∀a,B a→H a≠none
 ba:∀a,B a→∀i:Nat,α[i]?≠some a
 al:∀(i:Nat) (a:Addr),α[i]? =some a→H a≠none
 cel:∀(i:Nat) (a:Addr) (c:Cell),α[i]? =some a→ω[i]? =some c→COk (ow B α ω) K H α a c
structure Evo (α:List Addr) (ω:bz) (H:Hp) (α':List Addr) (ω':bz) (H':Hp):Prop where
 pre:∀(i:Nat) (a:Addr),α[i]? =some a→α'[i]? =some a
 kp:∀b o,H b=some o→¬Lv α ω b→H' b=some o
 lv:∀b,Lv α' ω' b→Lv α ω b∨H b=none
section
variable {B O O':b6} {K:PySem.W.Frag} {E:XK} {H H' H1 H2:Hp} {α α' α1 α2:List Addr} {ω ω' ω1 ω2:bz} {σ:L2.St} {ρ:cg} {v:V}
theorem Evo.refl:Evo α ω H α ω H:=⟨fun _ _ h=>h,fun _ _ h _=>h,fun _ h=> .inl h⟩
theorem Evo.trans (a:Evo α ω H α1 ω1 H1) (b:Evo α1 ω1 H1 α2 ω2 H2):Evo α ω H α2 ω2 H2:=by
 have n1:∀b o,H b=some o→¬Lv α ω b→¬Lv α1 ω1 b:=fun b o h n z=>(a.lv b z).elim n fun q=>by rw[h] at q;cases q
 refine⟨fun i p h=>b.pre i p (a.pre i p h),fun p o h n=>b.kp p o (a.kp p o h n) (n1 p o h n),fun p h=> ?_⟩
 rcases b.lv p h with h|h
 ·exact a.lv p h
 ·cases q:H p with
  |none=>exact .inr rfl
  |some o=>
   refine .inl (Classical.byContradiction fun n=> ?_)
   rw[a.kp p o q n] at h
   cases h
theorem Evo.same (s:Same H H'):Evo α ω H α ω H':=⟨fun _ _ h=>h,fun b o h _=>s b o h,fun _ h=> .inl h⟩
theorem Evo.ev (e:Evo α ω H α' ω' H'):Ev (ow B α ω) H (ow B α' ω') H':=fun b o h n=>
 ⟨e.kp b o h fun z=>n (.inr z),fun z=>z.elim (fun q=>n (.inl q)) fun q=>(e.lv b q).elim (fun q=>n (.inr q)) fun q=>by rw[h] at q;cases q⟩
theorem AOk.ev {x:AV} (e:Ev O H O' H') (p:∀(i:Nat) (a:Addr),α[i]? =some a→α'[i]? =some a) (h:AOk O K H α v x):AOk O' K H' α' v x:=by
 cases x with
 |fz d=>exact DV.ev e h
 |rf i=>obtain⟨a,h1,h2⟩:=h;exact⟨a,p i a h1,h2⟩
theorem VOk.ev {x:SV} (e:Ev O H O' H') (p:∀(i:Nat) (a:Addr),α[i]? =some a→α'[i]? =some a) (h:VOk O K H α v x):VOk O' K H' α' v x:=by
 cases x with
 |fz d=>exact DV.ev e h
 |rf i=>obtain⟨a,h1,h2⟩:=h;exact⟨a,p i a h1,h2⟩
 |tp l=>obtain⟨a,xs,h1,h2,h3⟩:=h;exact⟨a,xs,h1,h2.ev e,Paired.mapP h3 fun _ _ q=>q.ev e p⟩
theorem VOk.evo {x:SV} (e:Evo α ω H α' ω' H') (h:VOk (ow B α ω) K H α v x):VOk (ow B α' ω') K H' α' v x:=h.ev e.ev e.pre
theorem VsOk.evo {vs:List V} {xs:List SV} (e:Evo α ω H α' ω' H') (h:VsOk (ow B α ω) K H α vs xs):VsOk (ow B α' ω') K H' α' vs xs:=Paired.mapP h fun _ _ q=>q.evo e
theorem SlOk.evo (e:Evo α ω H α' ω' H') (h:SlOk (ow B α ω) K H α σ ρ):SlOk (ow B α' ω') K H' α' σ ρ:=⟨h.1,fun i x q=>let⟨v,h1,h2⟩:=h.2 i x q;⟨v,h1,h2.evo e⟩⟩
theorem COk.ev {a:Addr} {c:Cell} (e:Ev O H O' H') (p:∀(i:Nat) (a:Addr),α[i]? =some a→α'[i]? =some a) (ha:∀o,H a=some o→H' a=some o) (h:COk O K H α a c):COk O' K H' α' a c:=by
 cases c with
 |lst xs=>obtain⟨vs,h1,h2⟩:=h;exact⟨vs,ha _ h1,Paired.mapP h2 fun _ _ q=>q.ev e p⟩
 |dct kvs=>obtain⟨ws,h1,h2⟩:=h;exact⟨ws,ha _ h1,Paired.mapP h2 fun _ _ q=>⟨q.1,q.2.ev e p⟩⟩
 |obj C fs=>obtain⟨Ca,dx,ws,h0,h1,h2⟩:=h;exact⟨Ca,dx,ws,h0,ha _ h1,Paired.mapP h2 fun _ _ q=>⟨q.1,q.2.ev e p⟩⟩
 |dead=>trivial
theorem StoOk.noO (s:StoOk B K H α ω):kY (ow B α ω) H:=fun a h z=>z.elim (fun q=>s.bn a q h) fun⟨i,c,q,_⟩=>s.al i a q h
theorem StoOk.owd (s:StoOk B K H α ω):∀a,ow B α ω a→H a≠none:=fun a z h=>s.noO a h z
theorem StoOk.grow (s:StoOk B K H α ω) (e:Same H H'):StoOk B K H' α ω:=by
 have n:∀a,H a≠none→H' a≠none:=fun a h z=>h (e.free z)
 exact⟨s.len,s.nd,fun a h=>n a (s.bn a h),s.ba,fun i a h=>n a (s.al i a h),fun i a c h1 h2=>(s.cel i a c h1 h2).ev (Ev.grow e) (fun _ _ h=>h) fun o h=>e _ _ h⟩
theorem StoOk.at (s:StoOk B K H α ω) {i:Nat} {c:Cell} (h:ω[i]? =some c):∃a,α[i]? =some a:=by
 have:i<ω.length:=(List.getElem?_eq_some_iff.mp h).1
 rw[←s.len] at this
 exact⟨_,List.getElem?_eq_getElem this⟩
theorem StoOk.notB (s:StoOk B K H α ω) {i:Nat} {a:Addr} (h:α[i]? =some a):¬B a:=fun z=>s.ba a z i h
theorem vP {i:Nat} {c c':Cell} (h:ω[i]? =some c) (hc:c≠ .dead) (hc':c'≠ .dead) {b:Addr}:Lv α (ω.set i c') b↔Lv α ω b:=by
 constructor
 ·rintro⟨j,d,h1,h2,h3⟩
  rcases cy h2 with⟨rfl,rfl⟩|⟨_,h2⟩
  ·exact⟨j,c,h1,h,hc⟩
  ·exact⟨j,d,h1,h2,h3⟩
 ·rintro⟨j,d,h1,h2,h3⟩
  by_cases e:j=i
  ·subst e
   exact⟨j,c',h1,by rw[List.getElem?_set_self (List.getElem?_eq_some_iff.mp h).1],hc'⟩
  ·exact⟨j,d,h1,by rw[List.getElem?_set_ne (fun z=>e z.symm)];exact h2,h3⟩
theorem EF {i:Nat} {c c':Cell} (h:ω[i]? =some c) (hc:c≠ .dead) (hc':c'≠ .dead):ow B α (ω.set i c')=ow B α ω:=by
 funext b
 exact propext ⟨fun z=>z.imp id (vP h hc hc').mp,fun z=>z.imp id (vP h hc hc').mpr⟩
theorem Evo.put {i:Nat} {a:Addr} {c c':Cell} {o:HO} (ha:α[i]? =some a) (h:ω[i]? =some c) (hc:c≠ .dead) (hc':c'≠ .dead):Evo α ω H α (ω.set i c') (bL H a o):=
 ⟨fun _ _ h=>h,fun b o' q n=>by
  have z:b≠a:=fun e=>n ⟨i,c,by rw[e];exact ha,h,hc⟩
  rw[aX z];exact q,fun b z=> .inl ((vP h hc hc').mp z)⟩
theorem StoOk.put (s:StoOk B K H α ω) {i:Nat} {a:Addr} {c c':Cell} {o:HO} (ha:α[i]? =some a) (h:ω[i]? =some c) (hc:c≠ .dead) (hc':c'≠ .dead) (new:COk (ow B α ω) K (bL H a o) α a c'):StoOk B K (bL H a o) α (ω.set i c'):=by
 have e:Evo α ω H α (ω.set i c') (bL H a o):=Evo.put ha h hc hc'
 have n:∀b,H b≠none→bL H a o b≠none:=fun b h=>by
  by_cases z:b=a
  ·subst z;rw[aO];simp
  ·rw[aX z];exact h
 refine⟨by rw[List.length_set];exact s.len,s.nd,fun b h=>n b (s.bn b h),s.ba,fun j b h=>n b (s.al j b h),fun j b d h1 h2=> ?_⟩
 rcases cy h2 with⟨rfl,rfl⟩|⟨hne,h2⟩
 ·rw[ha] at h1;cases h1
  rw[EF h hc hc'];exact new
 ·exact(s.cel j b d h1 h2).ev e.ev e.pre fun u q=>by rw[aX (fun z=>hne (s.nd j i a (by rw[←z];exact h1) ha))];exact q
theorem sT {i:Nat} {a:Addr} {c:Cell} {o:HO} (ha:α[i]? =some a) (h:ω[i]? =some c) (hc:c≠ .dead):Ev (ow B α ω) H (ow B α ω) (bL H a o):=Ev.mut (.inr ⟨i,c,ha,h,hc⟩) o
theorem cc {α:Type} {l:List α} {x y:α} {i:Nat} (h:(l++[x])[i]? =some y):l[i]? =some y∨(i=l.length∧y=x):=by
 by_cases hi:i<l.length
 ·rw[List.getElem?_append_left hi] at h;exact .inl h
 ·rw[List.getElem?_append_right (by omega)] at h
  cases q:i - l.length with
  |zero=>rw[q] at h;cases h;exact .inr ⟨by omega,rfl⟩
  |succ n=>rw[q] at h;cases h
theorem fN {α:Type} {l:List α} {x y:α} {i:Nat} (h:l[i]? =some y):(l++[x])[i]? =some y:=by
 rw[List.getElem?_append_left (List.getElem?_eq_some_iff.mp h).1];exact h
theorem bK {α:Type} {l:List α} {x:α}:(l++[x])[l.length]? =some x:=by simp
theorem oZ {p:Addr} {c:Cell} (hl:α.length=ω.length) {b:Addr} (h:Lv (α++[p]) (ω++[c]) b):Lv α ω b∨b=p:=by
 obtain⟨i,d,h1,h2,h3⟩:=h
 rcases cc h1 with h1|⟨e1,e2⟩
 ·rcases cc h2 with h2|⟨e1,e2⟩
  ·exact .inl ⟨i,d,h1,h2,h3⟩
  ·have:=(List.getElem?_eq_some_iff.mp h1).1;omega
 ·exact .inr e2
theorem Evo.newS {p:Addr} {c:Cell} (hl:α.length=ω.length) (s:Same H H') (hp:H p=none):Evo α ω H (α++[p]) (ω++[c]) H':=
 ⟨fun i a h=>fN h,fun b u q _=>s b u q,fun b z=>(oZ hl z).imp id fun e=>by rw[e];exact hp⟩
theorem StoOk.newS (s:StoOk B K H α ω) {p:Addr} {c:Cell} (e:Same H H') (hp:H p=none) (hq:H' p≠none) (new:COk (ow B (α++[p]) (ω++[c])) K H' (α++[p]) p c):StoOk B K H' (α++[p]) (ω++[c]):=by
 have ev:Evo α ω H (α++[p]) (ω++[c]) H':=Evo.newS s.len e hp
 have n:∀b,H b≠none→H' b≠none:=fun b h z=>h (e.free z)
 refine⟨by rw[List.length_append,List.length_append,s.len];rfl,fun i j a h1 h2=> ?_,fun a h=>n a (s.bn a h),fun a h i q=> ?_,fun i a h=> ?_,fun i a d h1 h2=> ?_⟩
 ·rcases cc h1 with g1|⟨e1,e2⟩<;>rcases cc h2 with g2|⟨e3,e4⟩
  ·exact s.nd i j a g1 g2
  ·exact absurd (by rw[e4];exact hp) (s.al i a g1)
  ·exact absurd (by rw[e2];exact hp) (s.al j a g2)
  ·omega
 ·rcases cc q with q|⟨_,e2⟩
  ·exact s.ba a h i q
  ·subst e2;exact s.bn a h hp
 ·rcases cc h with h|⟨_,e2⟩
  ·exact n a (s.al i a h)
  ·subst e2;exact hq
 ·rcases cc h2 with h2|⟨e1,e2⟩
  ·rcases cc h1 with h1|⟨e1,_⟩
   ·exact(s.cel i a d h1 h2).ev ev.ev ev.pre fun o q=>e _ _ q
   ·have:=(List.getElem?_eq_some_iff.mp h2).1;have:=s.len;omega
  ·rcases cc h1 with h1|⟨_,e3⟩
   ·have:=(List.getElem?_eq_some_iff.mp h1).1;have:=s.len;omega
   ·subst e2 e3;exact new
def WS {A:Type} (K:PySem.W.Frag) (E:XK) (B:b6) (H:Hp) (α:List Addr) (ω:bz) (P:A→List Addr→bz→Hp→Prop):RS A→Prop
 | .ok a ω'=>∀α' H',Evo α ω H α' ω' H'→StoOk B K H' α' ω'→P a α' ω' H'
 | .er x ω'=>∀c dx α' H',Evo α ω H α' ω' H'→StoOk B K H' α' ω'→XOk K (ow B α' ω') H' c dx x→E c dx H'
 | .bad=>False
theorem WS.from {A:Type} {P:A→List Addr→bz→Hp→Prop} {r:RS A} (e:Evo α ω H α1 ω1 H1) (h:WS K E B H α ω P r):WS K E B H1 α1 ω1 P r:=by
 cases r with
 |ok a ω2=>exact fun α2 H2 e2 s2=>h α2 H2 (e.trans e2) s2
 |er x ω2=>exact fun c dx α2 H2 e2 s2=>h c dx α2 H2 (e.trans e2) s2
 |bad=>exact h
theorem WS.bind {A C:Type} {P:C→List Addr→bz→Hp→Prop} {r:RS A} {k:A→bz→RS C} (h:WS K E B H α ω P (r.bind k)):WS K E B H α ω (fun a α1 ω1 H1=>WS K E B H1 α1 ω1 P (k a ω1)) r:=by
 cases r with
 |ok a ω1=>exact fun α1 H1 e1 _=>WS.from e1 h
 |er x ω1=>exact h
 |bad=>exact h
theorem WS.ofO {A C:Type} {P:C→List Addr→bz→Hp→Prop} {o:Option A} {k:A→bz→RS C} (h:WS K E B H α ω P ((RS.ofO ω o).bind k)):∃a,o=some a∧WS K E B H α ω P (k a ω):=by
 cases o with
 |none=>exact h.elim
 |some a=>exact⟨a,rfl,h⟩
theorem WS.imp {A:Type} {P P':A→List Addr→bz→Hp→Prop} {r:RS A} (h:WS K E B H α ω P r) (g:∀a α' ω' H',Evo α ω H α' ω' H'→StoOk B K H' α' ω'→P a α' ω' H'→P' a α' ω' H'):WS K E B H α ω P' r:=by
 cases r with
 |ok a ω1=>exact fun α1 H1 e1 s1=>g a α1 ω1 H1 e1 s1 (h α1 H1 e1 s1)
 |er x ω1=>exact h
 |bad=>exact h
theorem WS.now {A:Type} {P:A→List Addr→bz→Hp→Prop} {a:A} (s:StoOk B K H α ω) (h:WS K E B H α ω P (.ok a ω)):P a α ω H:=h α H .refl s
end
abbrev cB:=cg→bz→RS SV
abbrev gZ:=cg→bz→RS Bool
abbrev kl:=cg→bz→RS (List SV)
def eG (K:PySem.W.Frag) (E:XK) (t:TE) (f:cB):Prop:=
 ∀(B:b6) (σ:L2.St) (H:Hp) (α:List Addr) (ω:bz) (ρ:cg) (Q:VK),StoOk B K H α ω→SlOk (ow B α ω) K H α σ ρ→WS K E B H α ω (fun x α' ω' H'=>∀v,VOk (ow B α' ω') K H' α' v x→Q v H') (f ρ ω)→t σ H Q
def uh (K:PySem.W.Frag) (E:XK) (t:TT) (f:gZ):Prop:=
 ∀(B:b6) (σ:L2.St) (H:Hp) (α:List Addr) (ω:bz) (ρ:cg) (Q:Bool→Hp→Prop),StoOk B K H α ω→SlOk (ow B α ω) K H α σ ρ→WS K E B H α ω (fun b _ _ H'=>Q b H') (f ρ ω)→t σ H Q
def zj (K:PySem.W.Frag) (E:XK) (t:TA) (f:kl):Prop:=
 ∀(B:b6) (σ:L2.St) (H:Hp) (α:List Addr) (ω:bz) (ρ:cg) (Q:List V→Hp→Prop),StoOk B K H α ω→SlOk (ow B α ω) K H α σ ρ→WS K E B H α ω (fun xs α' ω' H'=>∀vs,VsOk (ow B α' ω') K H' α' vs xs→Q vs H') (f ρ ω)→t σ H Q
end L10
namespace L10
open PySem L2 L3
section
variable {B O O':b6} {K:PySem.W.Frag} {E:XK} {H H' H1 H2:Hp} {α α' α1 α2:List Addr} {ω ω' ω1 ω2:bz} {σ:L2.St} {ρ:cg} {v:V}
noncomputable def A2:Option SV→Option PV
 |some (.fz d)=>some (.fz d)
 |_=>none
noncomputable def bW (ρ:cg):aV:=ρ.map A2
theorem qX {i:Nat} {x:PV} (h:(bW ρ)[i]? =some (some x)):∃d,x= .fz d∧ρ[i]? =some (some (.fz d)):=by
 unfold bW at h
 rw[List.getElem?_map] at h
 cases q:ρ[i]? with
 |none=>rw[q] at h;cases h
 |some o=>
  rw[q] at h
  have h':A2 o=some x:=Option.some.inj h
  unfold A2 at h'
  split at h'
  ·cases h';exact⟨_,rfl,rfl⟩
  ·cases h'
theorem BM (s:StoOk B K H α ω) (sl:SlOk (ow B α ω) K H α σ ρ):Rl K (ow B α ω) H (ow B α ω) σ H (bW ρ):=by
 refine⟨Same.refl _,fun _ h=>h,s.owd,s.noO,by unfold bW;rw[List.length_map];exact sl.1,fun i x h=> ?_,fun i j ds es w h=> ?_⟩
 ·obtain⟨d,rfl,hd⟩:=qX h
  obtain⟨v,h1,h2⟩:=sl.2 i _ hd
  exact⟨v,h1,h2⟩
 ·obtain⟨d,e,_⟩:=qX h
  cases e
noncomputable def jg (ω:bz):RV→RS SV
 | .fz d=> .ok (.fz d) ω
 | .ow ds=> .ok (.rf ω.length) (ω++[.lst (ds.map .fz)])
noncomputable abbrev PQ (B:b6) (K:PySem.W.Frag) (Q:VK):SV→List Addr→bz→Hp→Prop:=fun x α' ω' H'=>∀v,VOk (ow B α' ω') K H' α' v x→Q v H'
theorem lW (O:b6) (α:List Addr):∀{vs:List V} {ds:List D},DVs O K H vs ds→VsOk O K H α vs (ds.map .fz)
 |_,_,.nil=> .nil
 |_,_,.cons h t=> .cons h (lW O α t)
theorem vL:∀{vs:List V} {ds:List D},VsOk O K H α vs (ds.map .fz)→DVs O K H vs ds
 |_,[],.nil=> .nil
 |_,_::_,.cons h t=> .cons h (vL t)
theorem oY {Q:VK} {ds:List D} {p:Addr} {vs:List V} {O':b6} (s:StoOk B K H α ω) (w:WS K E B H α ω (PQ B K Q) (jg ω (.ow ds))) (e:Same H H') (hp:H p=none) (h:H' p=some (.lst vs)) (hd:DVs O' K H' vs ds) (hO:∀b,ow B α ω b→O' b) (hq:O' p):Q (.ref p) H':=by
 have sub:∀b,ow B (α++[p]) (ω++[.lst (ds.map .fz)]) b→O' b:=fun b z=>z.elim (fun q=>hO b (.inl q)) fun q=>(oZ s.len q).elim (fun q=>hO b (.inr q)) fun q=>by rw[q];exact hq
 exact w (α++[p]) H' (Evo.newS s.len e hp) (s.newS e hp (by rw[h];simp) ⟨vs,h,lW _ _ (hd.ev (Ev.sub sub))⟩) (.ref p) ⟨p,by rw[←s.len];exact bK,rfl⟩
theorem AI {Q:VK} {rv:RV} (s:StoOk B K H α ω) (w:WS K E B H α ω (PQ B K Q) (jg ω rv)):Fin (ow B α ω) K H Q rv:=by
 cases rv with
 |fz d=>exact fun v H' e dv=>w α H' (Evo.same e) (s.grow e) v dv
 |ow ds=>exact fun p vs H' e hp h dv=>oY s w e hp h dv (fun b z=> .inl z) (.inr rfl)
noncomputable def ai (f:FE):cB:=fun ρ ω=>match f (bW ρ) with
 | .ok (.fz d,_)=> .ok (.fz d) ω
 | .ok (.ow ds,_)=>jg ω (.ow ds)
 | .ok (.pl _,_)=> .bad
 | .er x=> .er x ω
 | .bad=> .bad
theorem ae {t:TE} {f:FE} (h:EO K E t f):eG K E t (ai f):=by
 intro B σ H α ω ρ Q s sl w
 refine h (ow B α ω) H (ow B α ω) σ H (bW ρ) Q (BM s sl) ?_
 unfold ai at w
 cases q:f (bW ρ) with
 |bad=>rw[q] at w;exact w.elim
 |er x=>rw[q] at w;exact fun c dx H' e k=>w c dx α H' (Evo.same e) (s.grow e) k
 |ok r=>
  obtain⟨pv,ρ'⟩:=r
  rw[q] at w
  intro O' v H' e R p
  cases pv with
  |fz d=>exact w α H' (Evo.same R.same) (s.grow R.same) v (DV.ev (Ev.sub R.bo) p)
  |ow ds=>
   obtain⟨a,vs,rfl,h1,h2,h3,h4,h5⟩:=p
   exact oY s w R.same h2 h3 h4 R.bo h1
  |pl i=>exact w.elim
noncomputable def bM (f:FT):gZ:=fun ρ ω=>match f (bW ρ) with
 | .ok (b,_)=> .ok b ω
 | .er x=> .er x ω
 | .bad=> .bad
theorem b0 {t:TT} {f:FT} (h:TTO K E t f):uh K E t (bM f):=by
 intro B σ H α ω ρ Q s sl w
 refine h (ow B α ω) H (ow B α ω) σ H (bW ρ) Q (BM s sl) ?_
 unfold bM at w
 cases q:f (bW ρ) with
 |bad=>rw[q] at w;exact w.elim
 |er x=>rw[q] at w;exact fun c dx H' e k=>w c dx α H' (Evo.same e) (s.grow e) k
 |ok r=>
  obtain⟨b,ρ'⟩:=r
  rw[q] at w
  exact fun O' H' e R=>w α H' (Evo.same R.same) (s.grow R.same)
noncomputable def aF (i:Nat):cB:=fun ρ ω=>match ρ[i]? with
 |some (some x)=> .ok x ω
 |_=> .bad
theorem au {i:Nat}:eG K E (Bv i) (aF i):=by
 intro B σ H α ω ρ Q s sl w
 unfold aF at w
 cases q:ρ[i]? with
 |none=>rw[q] at w;exact w.elim
 |some o=>
  cases o with
  |none=>rw[q] at w;exact w.elim
  |some x=>
   rw[q] at w
   obtain⟨v,h1,h2⟩:=sl.2 i x q
   exact⟨v,h1,WS.now s w v h2⟩
def hV (K:PySem.W.Frag) (C:Str) (fs:List Str):Prop:=∃Ca,PySem.W.nsIn K mainGlobals C=some (some (.ref Ca))∧Cls K Ca∧∀f∈fs,NoAttr K Ca f
noncomputable def ci (C f:Str) (e:cB):cB:=fun ρ ω=>(e ρ ω).bind fun x ω1=>match x with
 | .rf i=>(match ω1[i]? with
  |some (.obj D fs)=>if D=C then RS.ofO ω1 (fs.lookup f) else .bad
  |_=> .bad)
 |_=> .bad
theorem p9 {f:Str} {x:SV}:∀{ws:List (Str×V)} {fs:List (Str×SV)},Paired (fun(p:Str×V) (q:Str×SV)=>p.1=q.1∧VOk O K H α p.2 q.2) ws fs→fs.lookup f=some x→∃v,ws.lookup f=some v∧VOk O K H α v x
 |_,_,.nil,h=>by cases h
 |(a,v)::ws,(b,y)::fs,.cons ⟨h1,h2⟩ t,h=>by
  cases h1
  rw[List.lookup_cons] at h⊢
  split at h
  ·cases h;exact⟨v,rfl,h2⟩
  ·exact p9 t h
theorem qW {f:Str}:∀{ws:List (Str×V)} {fs:List (Str×SV)},Paired (fun(p:Str×V) (q:Str×SV)=>p.1=q.1∧VOk O K H α p.2 q.2) ws fs→fs.lookup f=none→ws.lookup f=none
 |_,_,.nil,h=>rfl
 |(a,v)::ws,(b,y)::fs,.cons ⟨h1,h2⟩ t,h=>by
  cases h1
  rw[List.lookup_cons] at h⊢
  split at h
  ·cases h
  ·exact qW t h
theorem bv {C f:Str} {L:List Str} {ta:TE} {fa:cB} (hc:hV K C L) (hf:f∈L) (ha:eG K E ta fa):eG K E (G7 K ta f) (ci C f fa):=by
 intro B σ H α ω ρ Q s sl w
 refine ha B σ H α ω ρ _ s sl (w.bind.imp fun x α1 ω1 H1 e1 s1 w1 v hv=> ?_)
 cases x with
 |fz d=>exact w1.elim
 |tp l=>exact w1.elim
 |rf i=>
  obtain⟨a,ha,rfl⟩:=hv
  dsimp only at w1
  cases q:ω1[i]? with
  |none=>rw[q] at w1;exact w1.elim
  |some c=>
   rw[q] at w1
   cases c with
   |obj D fs=>
    dsimp only at w1
    by_cases z:D=C
    ·subst z
     rw[if_pos rfl] at w1
     obtain⟨Ca,dx,ws,h0,h1,h2⟩:=s1.cel i a _ ha q
     cases ql:fs.lookup f with
     |none=>rw[ql] at w1;exact w1.elim
     |some x=>
      rw[ql] at w1
      obtain⟨u,hu,vu⟩:=p9 h2 ql
      obtain⟨Cb,g0,g1,g2⟩:=hc
      rw[h0] at g0
      cases g0
      exact⟨a,Ca,dx,ws,u,rfl,h1,g1,g2 f hf,hu,WS.now s1 w1 u vu⟩
    ·rw[if_neg z] at w1;exact w1.elim
   |_=>exact w1.elim
noncomputable def aL {α β:Type} (f:α→Option β):List α→Option (List β)
 |[]=>some []
 |x::r=>match f x with
  |some y=>(match aL f r with
   |some ys=>some (y::ys)
   |none=>none)
  |none=>none
noncomputable def kF:Nat→bz→SV→Option D
 |_,_,.fz d=>some d
 |0,_,_=>none
 |n+1,ω,.rf i=>match ω[i]? with
  |some (.lst xs)=>(aL (kF n ω) xs).map .list
  |_=>none
 |n+1,ω,.tp l=>(aL (fun x=>kF n ω x.sv) l).map .tuple
theorem dA {α β:Type} {f:α→Option β} {R:V→α→Prop} {S:V→β→Prop} (h:∀v x y,R v x→f x=some y→S v y):∀{vs:List V} {xs:List α} {ys:List β},Paired R vs xs→aL f xs=some ys→Paired S vs ys
 |_,_,_,.nil,e=>by cases e;exact .nil
 |_,_,_,.cons (b:=x) (l₂:=xs) r t,e=>by
  unfold aL at e
  cases q:f x with
  |none=>rw[q] at e;cases e
  |some y=>
   rw[q] at e
   dsimp only at e
   cases q2:aL f xs with
   |none=>rw[q2] at e;cases e
   |some ys=>
    rw[q2] at e
    cases e
    exact .cons (h _ _ _ r q) (dA h t q2)
theorem jh:∀{vs:List V} {ds:List D},Paired (DV O K H) vs ds→DVs O K H vs ds
 |_,_,.nil=> .nil
 |_,_,.cons h t=> .cons h (jh t)
theorem D9:Ev O H noO H:=Ev.sub fun _ z=>z.elim
theorem jB (s:StoOk B K H α ω):∀(n:Nat) {v:V} {x:SV} {d:D},VOk (ow B α ω) K H α v x→kF n ω x=some d→DV noO K H v d
 |n,v,.fz d',d,h,e=>by
  have e':some d'=some d:=by cases n<;>exact e
  cases e'
  exact DV.ev D9 h
 |0,v,.rf i,d,h,e=>by cases e
 |0,v,.tp l,d,h,e=>by cases e
 |n+1,v,.rf i,d,h,e=>by
  obtain⟨a,ha,rfl⟩:=h
  unfold kF at e
  cases q:ω[i]? with
  |none=>rw[q] at e;cases e
  |some c=>
   rw[q] at e
   cases c with
   |lst xs=>
    dsimp only at e
    cases q2:aL (kF n ω) xs with
    |none=>rw[q2] at e;cases e
    |some ds=>
     rw[q2] at e
     cases e
     obtain⟨vs,h1,h2⟩:=s.cel i a _ ha q
     exact .lst ⟨SqLX.of h1,fun z=>z.elim⟩ (jh (dA (R:=VOk (ow B α ω) K H α) (S:=L3.DV noO K H) (fun v x y r e=>jB s n r e) h2 q2))
   |_=>cases e
 |n+1,v,.tp l,d,h,e=>by
  obtain⟨a,xs,rfl,h1,h2⟩:=h
  unfold kF at e
  cases q2:aL (fun x=>kF n ω x.sv) l with
  |none=>rw[q2] at e;cases e
  |some ds=>
   rw[q2] at e
   cases e
   exact .tup (h1.ev D9) (jh (dA (R:=AOk (ow B α ω) K H α) (S:=L3.DV noO K H) (fun v x y r e=>jB s n (x:=x.sv) (by cases x<;>exact r) e) h2 q2))
noncomputable def qS:SV→Option D
 | .fz d=>some d
 |_=>none
noncomputable def sh (ω:bz):SV→Option D
 | .fz d=>some d
 | .rf i=>match ω[i]? with
  |some (.lst xs)=>(aL qS xs).map .list
  |_=>none
 | .tp _=>none
theorem zV (s:StoOk B K H α ω) {v:V} {x:SV} {d:D} (h:VOk (ow B α ω) K H α v x) (e:sh ω x=some d):DX (ow B α ω) K H v d:=by
 cases x with
 |fz d'=>cases e;exact DV.x h
 |tp l=>cases e
 |rf i=>
  obtain⟨a,ha,rfl⟩:=h
  unfold sh at e
  dsimp only at e
  cases q:ω[i]? with
  |none=>rw[q] at e;cases e
  |some c=>
   rw[q] at e
   cases c with
   |lst xs=>
    dsimp only at e
    cases q2:aL qS xs with
    |none=>rw[q2] at e;cases e
    |some ds=>
     rw[q2] at e
     cases e
     obtain⟨vs,h1,h2⟩:=s.cel i a _ ha q
     refine⟨a,vs,rfl,SqLX.of h1,jh (dA (R:=VOk (ow B α ω) K H α) (S:=L3.DV (ow B α ω) K H) (fun v x y r e=> ?_) h2 q2)⟩
     cases x with
     |fz d=>cases e;exact r
     |rf i=>cases e
     |tp l=>cases e
   |_=>cases e
noncomputable def yH:D→Bool
 | .none=>true
 | .bool _=>true
 | .int _=>true
 | .str _=>true
 |_=>false
theorem Dp {d:D} (h:yH d=true) (dv:DV O K H v d):DV O' K H' v d:=by
 cases dv with
 |non=>exact .non
 |bl b=>exact .bl b
 |int i=>exact .int i
 |str x=>exact .str x
 |tup _ _=>cases h
 |lst _ _=>cases h
noncomputable def mj (ω:bz):RV→RS SV
 | .fz d=>if yH d=true then .ok (.fz d) ω else .bad
 | .ow _=> .bad
theorem A7 {Q:VK} {rv:RV} (s:StoOk B K H α ω) (w:WS K E B H α ω (PQ B K Q) (mj ω rv)):Fin noO K H Q rv:=by
 cases rv with
 |fz d=>
  have w:WS K E B H α ω (PQ B K Q) (if yH d=true then RS.ok (SV.fz d) ω else RS.bad):=w
  by_cases z:yH d=true
  ·rw[if_pos z] at w
   exact fun v H' e dv=>w α H' (Evo.same e) (s.grow e) v (Dp z dv)
  ·rw[if_neg z] at w;exact w.elim
 |ow ds=>exact w.elim
theorem A6:kY noO H:=fun _ _ z=>z
noncomputable def kA (f:D→D→Option RV) (x y:SV) (ω:bz):RS SV:=match sh ω x,sh ω y with
 |some dx,some dy=>(RS.ofO ω (f dx dy)).bind fun rv ω1=>jg ω1 rv
 |_,_=>(RS.ofO ω (kF 6 ω x)).bind fun dx ω1=>(RS.ofO ω1 (kF 6 ω1 y)).bind fun dy ω2=>(RS.ofO ω2 (f dx dy)).bind fun rv ω3=>mj ω3 rv
theorem zy {r:R2} {f:D→D→Option RV} {x y:V} {a b:SV} {Q:VK} (hr:pI K r f) (s:StoOk B K H α ω) (hx:VOk (ow B α ω) K H α x a) (hy:VOk (ow B α ω) K H α y b) (w:WS K E B H α ω (PQ B K Q) (kA f a b ω)):r x y H Q:=by
 have deep:WS K E B H α ω (PQ B K Q) ((RS.ofO ω (kF 6 ω a)).bind fun dx ω1=>(RS.ofO ω1 (kF 6 ω1 b)).bind fun dy ω2=>(RS.ofO ω2 (f dx dy)).bind fun rv ω3=>mj ω3 rv)→r x y H Q:=fun w=>by
  obtain⟨dx,q1,w⟩:=w.ofO
  obtain⟨dy,q2,w⟩:=w.ofO
  obtain⟨rv,q3,w⟩:=w.ofO
  exact hr noO H x y dx dy rv Q A6 (DV.x (jB s 6 hx q1)) (DV.x (jB s 6 hy q2)) q3 (A7 s w)
 unfold kA at w
 cases q1:sh ω a with
 |none=>rw[q1] at w;exact deep w
 |some dx=>
  cases q2:sh ω b with
  |none=>rw[q1,q2] at w;exact deep w
  |some dy=>
   rw[q1,q2] at w
   obtain⟨rv,q3,w⟩:=w.ofO
   exact hr _ H x y dx dy rv Q s.noO (zV s hx q1) (zV s hy q2) q3 (AI s w)
noncomputable def je (f:D→D→Option RV) (fa fb:cB):cB:=fun ρ ω=>(fa ρ ω).bind fun x ω1=>(fb ρ ω1).bind fun y ω2=>kA f x y ω2
theorem cZ {r:R2} {f:D→D→Option RV} {ta tb:TE} {fa fb:cB} (hr:pI K r f) (ha:eG K E ta fa) (hb:eG K E tb fb):eG K E (Fx r ta tb) (je f fa fb):=by
 intro B σ H α ω ρ Q s sl w
 refine ha B σ H α ω ρ _ s sl (w.bind.imp fun x α1 ω1 H1 e1 s1 w1 v hv=> ?_)
 refine hb B σ H1 α1 ω1 ρ _ s1 (sl.evo e1) (w1.bind.imp fun y α2 ω2 H2 e2 s2 w2 u hu=> ?_)
 exact zy hr s2 (hv.evo e2) hu w2
noncomputable def Cv:SV→Option Bool
 | .fz (.bool b)=>some b
 |_=>none
theorem Db {x:SV} {b:Bool} (e:Cv x=some b) (h:VOk O K H α v x):v= .bl b:=by
 unfold Cv at e
 split at e
 ·cases e;cases h;rfl
 ·cases e
noncomputable def bV (fa:cB):gZ:=fun ρ ω=>(fa ρ ω).bind fun x ω1=>RS.ofO ω1 (Cv x)
theorem cS {ta:TE} {fa:cB} (ha:eG K E ta fa):uh K E (BF ta) (bV fa):=by
 intro B σ H α ω ρ Q s sl w
 refine ha B σ H α ω ρ _ s sl (w.bind.imp fun x α1 ω1 H1 e1 s1 w1 v hv=> ?_)
 cases q:Cv x with
 |none=>rw[q] at w1;exact w1.elim
 |some b=>rw[q] at w1;exact⟨b,Db q hv,WS.now s1 w1⟩
theorem kZ {ta:TE} {fa:cB} (ha:eG K E ta fa):uh K E (tB ta) (bV fa):=cS ha
noncomputable def g6 (fa fb:gZ):gZ:=fun ρ ω=>(fa ρ ω).bind fun b ω1=>if b=true then fb ρ ω1 else .ok false ω1
noncomputable def wC (fa fb:gZ):gZ:=fun ρ ω=>(fa ρ ω).bind fun b ω1=>if b=true then .ok true ω1 else fb ρ ω1
noncomputable def tR (fa:gZ):gZ:=fun ρ ω=>(fa ρ ω).bind fun b ω1=> .ok (!b) ω1
theorem gB {t u:TT} {f g:gZ} (h1:uh K E t f) (h2:uh K E u g):uh K E (Fk t u) (g6 f g):=by
 intro B σ H α ω ρ Q s sl w
 refine h1 B σ H α ω ρ _ s sl (w.bind.imp fun b α1 ω1 H1 e1 s1 w1=> ?_)
 cases b with
 |true=>exact h2 B σ H1 α1 ω1 ρ Q s1 (sl.evo e1) w1
 |false=>exact WS.now s1 w1
theorem kz {t u:TT} {f g:gZ} (h1:uh K E t f) (h2:uh K E u g):uh K E (Ig t u) (wC f g):=by
 intro B σ H α ω ρ Q s sl w
 refine h1 B σ H α ω ρ _ s sl (w.bind.imp fun b α1 ω1 H1 e1 s1 w1=> ?_)
 cases b with
 |true=>exact WS.now s1 w1
 |false=>exact h2 B σ H1 α1 ω1 ρ Q s1 (sl.evo e1) w1
theorem yf {t:TT} {f:gZ} (h1:uh K E t f):uh K E (Ek t) (tR f):=by
 intro B σ H α ω ρ Q s sl w
 exact h1 B σ H α ω ρ _ s sl (w.bind.imp fun b α1 ω1 H1 e1 s1 w1=>WS.now s1 w1)
noncomputable def jj:gZ:=fun _ ω=> .ok true ω
theorem oI:uh K E BG jj:=fun B σ H α ω ρ Q s sl w=>WS.now s w
noncomputable def yA (fa fb:cB):cB:=fun ρ ω=>(bV fa ρ ω).bind fun b ω1=>if b=true then fb ρ ω1 else .ok (.fz (.bool false)) ω1
theorem CU {ta tb:TE} {fa fb:cB} (ha:eG K E ta fa) (hb:eG K E tb fb):eG K E (D2 ta tb) (yA fa fb):=by
 intro B σ H α ω ρ Q s sl w
 refine cS ha B σ H α ω ρ (fun c H1=>if c=true then tb σ H1 Q else Q (.bl false) H1) s sl (w.bind.imp fun b α1 ω1 H1 e1 s1 w1=> ?_)
 cases b with
 |true=>exact hb B σ H1 α1 ω1 ρ Q s1 (sl.evo e1) w1
 |false=>exact WS.now s1 w1 _ (.bl false)
noncomputable def EJ (c:gZ) (fa fb:cB):cB:=fun ρ ω=>(c ρ ω).bind fun b ω1=>if b=true then fa ρ ω1 else fb ρ ω1
theorem FX {t:TT} {c:gZ} {ta tb:TE} {fa fb:cB} (hc:uh K E t c) (ha:eG K E ta fa) (hb:eG K E tb fb):eG K E (HA t ta tb) (EJ c fa fb):=by
 intro B σ H α ω ρ Q s sl w
 refine hc B σ H α ω ρ _ s sl (w.bind.imp fun b α1 ω1 H1 e1 s1 w1=> ?_)
 cases b with
 |true=>exact ha B σ H1 α1 ω1 ρ Q s1 (sl.evo e1) w1
 |false=>exact hb B σ H1 α1 ω1 ρ Q s1 (sl.evo e1) w1
noncomputable def a8:kl:=fun _ ω=> .ok [] ω
noncomputable def aB (fa:cB) (fr:kl):kl:=fun ρ ω=>(fa ρ ω).bind fun x ω1=>(fr ρ ω1).bind fun xs ω2=> .ok (x::xs) ω2
theorem aK:zj K E pp a8:=fun B σ H α ω ρ Q s sl w=>WS.now s w [] .nil
theorem ay {ta:TE} {tr:TA} {fa:cB} {fr:kl} (ha:eG K E ta fa) (hr:zj K E tr fr):zj K E (j5 ta tr) (aB fa fr):=by
 intro B σ H α ω ρ Q s sl w
 refine ha B σ H α ω ρ _ s sl (w.bind.imp fun x α1 ω1 H1 e1 s1 w1 v hv=> ?_)
 refine hr B σ H1 α1 ω1 ρ _ s1 (sl.evo e1) (w1.bind.imp fun xs α2 ω2 H2 e2 s2 w2 vs hvs=> ?_)
 exact WS.now s2 w2 (v::vs) (.cons (hv.evo e2) hvs)
noncomputable def Hq:SV→Option AV
 | .fz d=>some (.fz d)
 | .rf i=>some (.rf i)
 | .tp _=>none
noncomputable def He (xs:List SV):Option SV:=match aL qS xs with
 |some ds=>some (.fz (.tuple ds))
 |none=>(aL Hq xs).map .tp
noncomputable def gO (fa:kl):cB:=fun ρ ω=>(fa ρ ω).bind fun xs ω1=>if xs.length≤1000 then RS.ofO ω1 (He xs) else .bad
theorem wb {x:SV} {d:D} (r:VOk O K H α v x) (e:qS x=some d):DV O K H v d:=by
 cases x with
 |fz d=>cases e;exact r
 |rf i=>cases e
 |tp l=>cases e
theorem Es {x:SV} {d:AV} (r:VOk O K H α v x) (e:Hq x=some d):AOk O K H α v d:=by
 cases x with
 |fz d=>cases e;exact r
 |rf i=>cases e;exact r
 |tp l=>cases e
theorem gh {ta:TA} {fa:kl} (ha:zj K E ta fa):eG K E (Fm ta) (gO fa):=by
 intro B σ H α ω ρ Q s sl w
 refine ha B σ H α ω ρ _ s sl (w.bind.imp fun xs α1 ω1 H1 e1 s1 w1 vs hv=> ?_)
 by_cases hn:xs.length≤1000
 ·rw[if_pos hn] at w1
  refine⟨by rw[hv.length];exact vk hn,fun p hp=> ?_⟩
  have sm:Same H1 (bL H1 p (.tup vs)):=cb hp _
  have e:Evo α1 ω1 H1 α1 ω1 (bL H1 p (.tup vs)):=Evo.same sm
  have ht:SqTO (ow B α1 ω1) K (bL H1 p (.tup vs)) p vs:=⟨SqT.of aO,fun z=>absurd z (s1.noO p hp)⟩
  unfold He at w1
  cases q:aL qS xs with
  |some ds=>
   rw[q] at w1
   exact w1 α1 _ e (s1.grow sm) _ (.tup ht (jh (dA (R:=VOk (ow B α1 ω1) K H1 α1) (S:=L3.DV (ow B α1 ω1) K (bL H1 p (.tup vs))) (fun v x y r e'=>(wb r e').ev e.ev) hv q)))
  |none=>
   rw[q] at w1
   dsimp only at w1
   cases q2:aL Hq xs with
   |none=>rw[q2] at w1;exact w1.elim
   |some l=>
    rw[q2] at w1
    exact w1 α1 _ e (s1.grow sm) _ ⟨p,vs,rfl,ht,dA (R:=VOk (ow B α1 ω1) K H1 α1) (S:=AOk (ow B α1 ω1) K (bL H1 p (.tup vs)) α1) (fun v x y r e'=>(Es r e').ev e.ev e.pre) hv q2⟩
 ·rw[if_neg hn] at w1;exact w1.elim
noncomputable def Eg (f:List D→Option RV) (xs:List SV) (ω:bz):RS SV:=match aL (sh ω) xs with
 |some ds=>(RS.ofO ω (f ds)).bind fun rv ω1=>jg ω1 rv
 |_=>(RS.ofO ω (aL (kF 6 ω) xs)).bind fun ds ω1=>(RS.ofO ω1 (f ds)).bind fun rv ω3=>mj ω3 rv
noncomputable def Dm (f:List D→Option RV) (fa:kl):cB:=fun ρ ω=>(fa ρ ω).bind fun xs ω1=>Eg f xs ω1
theorem wv {r:List V→Hp→VK→Prop} {f:List D→Option RV} {ta:TA} {fa:kl} (hr:BO K r f) (ha:zj K E ta fa):eG K E (CG r ta) (Dm f fa):=by
 intro B σ H α ω ρ Q s sl w
 refine ha B σ H α ω ρ _ s sl (w.bind.imp fun xs α1 ω1 H1 e1 s1 w1 vs hv=> ?_)
 unfold Eg at w1
 cases q1:aL (sh ω1) xs with
 |none=>
  rw[q1] at w1
  obtain⟨ds,q2,w1⟩:=w1.ofO
  obtain⟨rv,q3,w1⟩:=w1.ofO
  exact hr noO H1 vs ds rv Q A6 (dA (R:=VOk (ow B α1 ω1) K H1 α1) (S:=DX noO K H1) (fun v x y r e=>DV.x (jB s1 6 r e)) hv q2) q3 (A7 s1 w1)
 |some ds=>
  rw[q1] at w1
  obtain⟨rv,q3,w1⟩:=w1.ofO
  exact hr _ H1 vs ds rv Q s1.noO (dA (R:=VOk (ow B α1 ω1) K H1 α1) (S:=DX (ow B α1 ω1) K H1) (fun v x y r e=>zV s1 r e) hv q1) q3 (AI s1 w1)
end
end L10
namespace L10
open PySem L2 L3
section
variable {B O O':b6} {K:PySem.W.Frag} {E:XK} {H H' H1 H2:Hp} {α α' α1 α2:List Addr} {ω ω' ω1 ω2:bz} {σ:L2.St} {ρ:cg} {v:V}
theorem vF {β:Type} {R:V→β→Prop}:∀{vs:List V} {xs:List β} {i:Nat} {x:β},Paired R vs xs→xs[i]? =some x→∃v,vs[i]? =some v∧R v x
 |_,_,_,_,.nil,e=>by simp at e
 |_,_,0,_,.cons h _,e=>by simp at e;subst e;exact⟨_,rfl,h⟩
 |_,_,i+1,x,.cons _ t,e=>by
  obtain⟨v,h1,h2⟩:=vF (i:=i) (x:=x) t (by simpa using e)
  exact⟨v,by simpa using h1,h2⟩
theorem DL {β:Type} {R:V→β→Prop} {vs:List V} {xs:List β} {i:Int} {x:β} (h:Paired R vs xs) (e:l8 xs i=some x):∃v,l8 vs i=some v∧R v x:=by
 unfold l8 at e⊢
 rw[h.length]
 cases q:DI xs.length i with
 |none=>rw[q] at e;cases e
 |some j=>rw[q] at e;exact vF h e
noncomputable def CB:SV→Option Int
 | .fz (.int i)=>some i
 |_=>none
theorem wI {x:SV} {i:Int} (e:CB x=some i) (h:VOk O K H α v x):v= .int i:=by
 unfold CB at e
 split at e
 ·cases e;cases h;rfl
 ·cases e
noncomputable def Gg (x y:SV) (ω:bz):RS SV:=match x with
 | .fz _=>kA bH x y ω
 | .rf j=>(match ω[j]? with
  |some (.lst xs)=>(RS.ofO ω (CB y)).bind fun i ω1=>RS.ofO ω1 (l8 xs i)
  |_=> .bad)
 | .tp l=>(RS.ofO ω (CB y)).bind fun i ω1=>RS.ofO ω1 ((l8 l i).map AV.sv)
noncomputable def nw (fa fb:cB):cB:=fun ρ ω=>(fa ρ ω).bind fun x ω1=>(fb ρ ω1).bind fun y ω2=>Gg x y ω2
theorem fm {ta tb:TE} {fa fb:cB} (ha:eG K E ta fa) (hb:eG K E tb fb):eG K E (Fx (Hm K) ta tb) (nw fa fb):=by
 intro B σ H α ω ρ Q s sl w
 refine ha B σ H α ω ρ _ s sl (w.bind.imp fun x α1 ω1 H1 e1 s1 w1 v hv=> ?_)
 refine hb B σ H1 α1 ω1 ρ _ s1 (sl.evo e1) (w1.bind.imp fun y α2 ω2 H2 e2 s2 w2 u hu=> ?_)
 have hv:=hv.evo e2
 unfold Gg at w2
 cases x with
 |fz d=>exact zy aN s2 hv hu w2
 |rf j=>
  obtain⟨a,ha,rfl⟩:=hv
  dsimp only at w2
  cases q:ω2[j]? with
  |none=>rw[q] at w2;exact w2.elim
  |some c=>
   rw[q] at w2
   cases c with
   |lst xs=>
    obtain⟨i,qi,w2⟩:=WS.ofO w2
    cases qa:l8 xs i with
    |none=>rw[qa] at w2;exact w2.elim
    |some x=>
     rw[qa] at w2
     obtain⟨vs,h1,h2⟩:=s2.cel j a _ ha q
     obtain⟨z,hz,vz⟩:=DL h2 qa
     exact .inl ⟨a,vs,i,z,rfl,wI qi hu,SqL.of h1,hz,WS.now s2 w2 z vz⟩
   |_=>exact w2.elim
 |tp l=>
  obtain⟨a,xs,rfl,h1,h2⟩:=hv
  obtain⟨i,qi,w2⟩:=WS.ofO w2
  cases qa:l8 l i with
  |none=>rw[qa] at w2;exact w2.elim
  |some x=>
   rw[qa] at w2
   obtain⟨z,hz,vz⟩:=DL h2 qa
   exact .inr (.inl ⟨a,xs,i,z,rfl,wI qi hu,h1.1,hz,WS.now s2 w2 z (by cases x<;>exact vz)⟩)
theorem ng {i:Nat} {b:Addr} (h:Lv α (ω.set i .dead) b):Lv α ω b:=by
 obtain⟨j,c,h1,h2,h3⟩:=h
 rcases cy h2 with⟨rfl,rfl⟩|⟨_,h2⟩
 ·exact absurd rfl h3
 ·exact⟨j,c,h1,h2,h3⟩
theorem Evo.kill {i:Nat}:Evo α ω H α (ω.set i .dead) H:=⟨fun _ _ h=>h,fun _ _ h _=>h,fun _ h=> .inl (ng h)⟩
theorem StoOk.kill (s:StoOk B K H α ω) (i:Nat):StoOk B K H α (ω.set i .dead):=by
 have e:Evo α ω H α (ω.set i .dead) H:=Evo.kill
 refine⟨by rw[List.length_set];exact s.len,s.nd,s.bn,s.ba,s.al,fun j b d h1 h2=> ?_⟩
 rcases cy h2 with⟨rfl,rfl⟩|⟨hne,h2⟩
 ·exact trivial
 ·exact(s.cel j b d h1 h2).ev e.ev e.pre fun u q=>q
theorem StoOk.killed (s:StoOk B K H α ω) {i:Nat} {a:Addr} (ha:α[i]? =some a):¬ow B α (ω.set i .dead) a:=by
 rintro(z|⟨j,c,h1,h2,h3⟩)
 ·exact s.notB ha z
 ·have:=s.nd j i a h1 ha
  subst this
  rcases cy h2 with⟨_,rfl⟩|⟨hne,_⟩
  ·exact h3 rfl
  ·exact hne rfl
noncomputable def mL (g:bz→SV→Option (D×bz)):bz→List SV→Option (List D×bz)
 |ω,[]=>some ([],ω)
 |ω,x::r=>match g ω x with
  |some (d,ω1)=>(match mL g ω1 r with
   |some (ds,ω2)=>some (d::ds,ω2)
   |none=>none)
  |none=>none
noncomputable def frz:Nat→bz→SV→Option (D×bz)
 |_,ω,.fz d=>some (d,ω)
 |0,_,_=>none
 |n+1,ω,.rf i=>match ω[i]? with
  |some (.lst xs)=>(match mL (frz n) ω xs with
   |some (ds,ω1)=>some (.list ds,ω1.set i .dead)
   |none=>none)
  |_=>none
 |n+1,ω,.tp l=>match mL (frz n) ω (l.map AV.sv) with
  |some (ds,ω1)=>some (.tuple ds,ω1)
  |none=>none
theorem tm {g:bz→SV→Option (D×bz)} (hg:∀{ω ω':bz} {v:V} {x:SV} {d:D},StoOk B K H α ω→VOk (ow B α ω) K H α v x→g ω x=some (d,ω')→StoOk B K H α ω'∧Evo α ω H α ω' H∧L3.DV (ow B α ω') K H v d):
  ∀{vs:List V} {xs:List SV} {ds:List D} {ω ω':bz},StoOk B K H α ω→VsOk (ow B α ω) K H α vs xs→mL g ω xs=some (ds,ω')→StoOk B K H α ω'∧Evo α ω H α ω' H∧L3.DVs (ow B α ω') K H vs ds
 |_,_,_,ω,ω',s,.nil,e=>by cases e;exact⟨s,.refl,.nil⟩
 |_,_,_,ω,ω',s,.cons (b:=x) (l₂:=xs) r t,e=>by
  unfold mL at e
  cases q:g ω x with
  |none=>rw[q] at e;cases e
  |some p=>
   obtain⟨d,ω1⟩:=p
   rw[q] at e
   dsimp only at e
   obtain⟨s1,e1,d1⟩:=hg s r q
   cases q2:mL g ω1 xs with
   |none=>rw[q2] at e;cases e
   |some p2=>
    obtain⟨ds,ω2⟩:=p2
    rw[q2] at e
    cases e
    obtain⟨s2,e2,d2⟩:=tm hg s1 (VsOk.evo e1 t) q2
    exact⟨s2,e1.trans e2,.cons (d1.ev e2.ev) d2⟩
theorem tE:∀{vs:List V} {l:List AV},Paired (AOk O K H α) vs l→VsOk O K H α vs (l.map AV.sv)
 |_,_,.nil=> .nil
 |_,_,.cons (b:=x) h t=> .cons (by cases x<;>exact h) (tE t)
theorem tI:∀(n:Nat) {ω ω':bz} {v:V} {x:SV} {d:D},StoOk B K H α ω→VOk (ow B α ω) K H α v x→frz n ω x=some (d,ω')→StoOk B K H α ω'∧Evo α ω H α ω' H∧L3.DV (ow B α ω') K H v d
 |n,ω,ω',v,.fz d',d,s,h,e=>by
  have e':some (d',ω)=some (d,ω'):=by cases n<;>exact e
  cases e'
  exact⟨s,.refl,h⟩
 |0,_,_,v,.rf i,d,s,h,e=>by cases e
 |0,_,_,v,.tp l,d,s,h,e=>by cases e
 |n+1,ω,ω',v,.rf i,d,s,h,e=>by
  obtain⟨a,ha,rfl⟩:=h
  unfold frz at e
  cases q:ω[i]? with
  |none=>rw[q] at e;cases e
  |some c=>
   rw[q] at e
   cases c with
   |lst xs=>
    dsimp only at e
    obtain⟨vs,h1,h2⟩:=s.cel i a _ ha q
    cases q2:mL (frz n) ω xs with
    |none=>rw[q2] at e;cases e
    |some p=>
     obtain⟨ds,ω1⟩:=p
     rw[q2] at e
     cases e
     obtain⟨s1,e1,d1⟩:=tm (fun s h e=>tI n s h e) s h2 q2
     exact⟨s1.kill i,e1.trans Evo.kill,rQ h1 (s1.killed ha) (d1.ev (Evo.kill (i:=i)).ev)⟩
   |_=>cases e
 |n+1,ω,ω',v,.tp l,d,s,h,e=>by
  obtain⟨a,xs,rfl,h1,h2⟩:=h
  unfold frz at e
  cases q2:mL (frz n) ω (l.map AV.sv) with
  |none=>rw[q2] at e;cases e
  |some p=>
   obtain⟨ds,ω1⟩:=p
   rw[q2] at e
   cases e
   obtain⟨s1,e1,d1⟩:=tm (fun s h e=>tI n s h e) s (tE h2) q2
   exact⟨s1,e1,.tup (h1.ev e1.ev) d1⟩
noncomputable def Fs (x:SV) (ω:bz):RS SV:=match frz 4 ω x with
 |some (d,ω1)=> .ok (.fz d) ω1
 |none=> .bad
noncomputable def tJ (f:cB):cB:=fun ρ ω=>(f ρ ω).bind fun x ω1=>Fs x ω1
theorem ni {t:TE} {f:cB} (h:eG K E t f):eG K E t (tJ f):=by
 intro B σ H α ω ρ Q s sl w
 refine h B σ H α ω ρ _ s sl (w.bind.imp fun x α1 ω1 H1 e1 s1 w1 v hv=> ?_)
 unfold Fs at w1
 cases q:frz 4 ω1 x with
 |none=>rw[q] at w1;exact w1.elim
 |some p=>
  obtain⟨d,ω2⟩:=p
  rw[q] at w1
  obtain⟨s2,e2,d2⟩:=tI 4 s1 hv q
  exact w1 α1 H1 e2 s2 v d2
theorem XOk.sub {c:Value} {dx:Option Addr} {x:Xc} (h:∀b,O' b→O b) (k:XOk K O H c dx x):XOk K O' H c dx x:=by
 obtain⟨h1,fs,h2,h3⟩:=k
 exact⟨h1,fs,h2,fun f d e=>let⟨g1,v,g2,g3⟩:=h3 f d e;⟨g1,v,g2,g3.ev (Ev.sub h)⟩⟩
noncomputable def uK (F:FN) (n:Nat) (xs:List SV) (ω:bz):RS SV:=if xs.length=n then(match aL qS xs with
 |some ds=>(match F ds with
  | .ok rv=>jg ω rv
  | .er x=> .er x ω
  | .bad=> .bad)
 |none=>(RS.ofO ω (aL (kF 6 ω) xs)).bind fun ds ω1=>(match F ds with
  | .ok rv=>mj ω1 rv
  |_=> .bad)) else .bad
noncomputable def i6 {A:Type}:RS A→RS A
 | .er _ _=> .bad
 |r=>r
noncomputable def ib (F:FN) (n:Nat) (fa:kl):cB:=fun ρ ω=>(fa ρ ω).bind fun xs ω1=>i6 (uK F n xs ω1)
theorem WS.e0 {A:Type} {P:A→List Addr→bz→Hp→Prop} {r:RS A} (h:WS K E B H α ω P (i6 r)):WS K E0 B H α ω P r:=by
 cases r with
 |ok a ω=>exact h
 |er x ω=>exact h.elim
 |bad=>exact h
theorem CC {F:FN} {n:Nat} {xs:List SV} {vs:List V} {Q:VK} (s:StoOk B K H α ω) (hv:VsOk (ow B α ω) K H α vs xs) (w:WS K E B H α ω (PQ B K Q) (uK F n xs ω)):qu K n F vs H Q E:=by
 unfold uK at w
 by_cases hn:xs.length=n
 ·rw[if_pos hn] at w
  refine⟨hv.length.trans hn,?_⟩
  cases q:aL qS xs with
  |some ds=>
   rw[q] at w
   refine⟨ow B α ω,ds,s.owd,jh (dA (R:=VOk (ow B α ω) K H α) (S:=L3.DV (ow B α ω) K H) (fun v x y r e=>wb r e) hv q),?_⟩
   dsimp only at w
   cases qF:F ds with
   |ok rv=>rw[qF] at w;exact AI s w
   |er x=>rw[qF] at w;exact fun c dx H' e k=>w c dx α H' (Evo.same e) (s.grow e) k
   |bad=>rw[qF] at w;exact w.elim
  |none=>
   rw[q] at w
   obtain⟨ds,q2,w⟩:=WS.ofO w
   refine⟨noO,ds,fun a z=>z.elim,jh (dA (R:=VOk (ow B α ω) K H α) (S:=L3.DV noO K H) (fun v x y r e=>jB s 6 r e) hv q2),?_⟩
   cases qF:F ds with
   |ok rv=>rw[qF] at w;exact A7 s w
   |er x=>rw[qF] at w;exact w.elim
   |bad=>rw[qF] at w;exact w.elim
 ·rw[if_neg hn] at w;exact w.elim
theorem ir {F:FN} {n:Nat} {ta:TA} {fa:kl} (ha:zj K E ta fa):eG K E (qM (qu K n F) [] E0 ta) (ib F n fa):=by
 intro B σ H α ω ρ Q s sl w
 refine ha B σ H α ω ρ _ s sl (w.bind.imp fun xs α1 ω1 H1 e1 s1 w1 vs hv=> ?_)
 rw[List.append_nil]
 exact CC s1 hv (WS.e0 w1)
abbrev gX:=List SV→bz→RS SV
noncomputable def eI (K:PySem.W.Frag) (n:Nat) (F:gX):Sp:=fun vs H Q E=>vs.length=n∧∃(B:b6) (α:List Addr) (ω:bz) (xs:List SV),StoOk B K H α ω∧VsOk (ow B α ω) K H α vs xs∧WS K E B H α ω (PQ B K Q) (F xs ω)
noncomputable def qz (F:gX) (n:Nat) (fa:kl):cB:=fun ρ ω=>(fa ρ ω).bind fun xs ω1=>if xs.length=n then i6 (F xs ω1) else .bad
theorem lN {F:gX} {n:Nat} {ta:TA} {fa:kl} (ha:zj K E ta fa):eG K E (qM (eI K n F) [] E0 ta) (qz F n fa):=by
 intro B σ H α ω ρ Q s sl w
 refine ha B σ H α ω ρ _ s sl (w.bind.imp fun xs α1 ω1 H1 e1 s1 w1 vs hv=> ?_)
 rw[List.append_nil]
 by_cases hn:xs.length=n
 ·rw[if_pos hn] at w1
  exact⟨hv.length.trans hn,B,α1,ω1,xs,s1,hv,WS.e0 w1⟩
 ·rw[if_neg hn] at w1;exact w1.elim
noncomputable def qU (ω:bz) (C m:Str):SV→Bool
 | .rf i=>match ω[i]? with
  |some (.obj D fs)=>decide (D=C)&&(fs.lookup m).isNone
  |_=>false
 |_=>false
noncomputable def bi (C m:Str) (F:gX) (n:Nat) (fo:cB) (fa:kl):cB:=fun ρ ω=>(fo ρ ω).bind fun x ω1=>if qU ω1 C m x=true then(fa ρ ω1).bind fun xs ω2=>(if(x::xs).length=n then i6 (F (x::xs) ω2) else .bad) else .bad
theorem FZ {C m:Str} {Ca:Addr} {x:SV} (hc:PySem.W.nsIn K mainGlobals C=some (some (.ref Ca))) (s:StoOk B K H α ω) (hv:VOk (ow B α ω) K H α v x) (h:qU ω C m x=true):∃a dx fs,v= .ref a∧H a=some (.ins Ca dx fs)∧fs.lookup m=none:=by
 cases x with
 |fz d=>cases h
 |tp l=>cases h
 |rf i=>
  obtain⟨a,ha,rfl⟩:=hv
  unfold qU at h
  dsimp only at h
  cases q:ω[i]? with
  |none=>rw[q] at h;cases h
  |some c=>
   rw[q] at h
   cases c with
   |obj D fs=>
    rw[Bool.and_eq_true] at h
    obtain⟨h1,h2⟩:=h
    have e:=of_decide_eq_true h1
    subst e
    obtain⟨Cb,dx,ws,g0,g1,g2⟩:=s.cel i a _ ha q
    rw[hc] at g0
    cases g0
    exact⟨a,dx,ws,rfl,g1,qW g2 (Option.isNone_iff_eq_none.mp h2)⟩
   |_=>cases h
theorem yy {C m:Str} {Ca:Addr} {F:gX} {n:Nat} {to:TE} {ta:TA} {fo:cB} {fa:kl} (hc:PySem.W.nsIn K mainGlobals C=some (some (.ref Ca))) (ho:eG K E to fo) (ha:zj K E ta fa):eG K E (xB Ca m (eI K n F) [] E0 to ta) (bi C m F n fo fa):=by
 intro B σ H α ω ρ Q s sl w
 refine ho B σ H α ω ρ _ s sl (w.bind.imp fun x α1 ω1 H1 e1 s1 w1 v hv=> ?_)
 by_cases h:qU ω1 C m x=true
 ·rw[if_pos h] at w1
  obtain⟨a,dx,fs,rfl,g1,g2⟩:=FZ hc s1 hv h
  refine⟨a,dx,fs,rfl,g1,g2,?_⟩
  refine ha B σ H1 α1 ω1 ρ _ s1 (sl.evo e1) (w1.bind.imp fun xs α2 ω2 H2 e2 s2 w2 vs hvs=> ?_)
  rw[List.append_nil]
  have hp:VsOk (ow B α2 ω2) K H2 α2 (.ref a::vs) (x::xs):= .cons (hv.evo e2) hvs
  by_cases hn:(x::xs).length=n
  ·rw[if_pos hn] at w2
   exact⟨hp.length.trans hn,B,α2,ω2,_,s2,hp,WS.e0 w2⟩
  ·rw[if_neg hn] at w2;exact w2.elim
 ·rw[if_neg h] at w1;exact w1.elim
noncomputable def Ay:SV→Bool
 | .fz .none=>true
 |_=>false
noncomputable def xh (C:Str) (F:gX) (n:Nat) (xs:List SV) (ω:bz):RS SV:=if(SV.rf ω.length::xs).length=n then(F (.rf ω.length::xs) (ω++[.obj C []])).bind fun r ω2=>(if Ay r=true then .ok (.rf ω.length) ω2 else .bad) else .bad
noncomputable def qN (C:Str) (F:gX) (n:Nat) (fa:kl):cB:=fun ρ ω=>(fa ρ ω).bind fun xs ω1=>i6 (xh C F n xs ω1)
theorem Dv {x:SV} (h:Ay x=true) (hv:VOk O K H α v x):v= .non:=by
 unfold Ay at h
 split at h
 ·cases hv;rfl
 ·cases h
theorem Fg {C:Str} {Ca:Addr} {F:gX} {n:Nat} {xs:List SV} {vs:List V} {Q:VK} (hc:PySem.W.nsIn K mainGlobals C=some (some (.ref Ca))) (s:StoOk B K H α ω) (hv:VsOk (ow B α ω) K H α vs xs) (w:WS K E B H α ω (PQ B K Q) (xh C F n xs ω)):
  ∀x dx,H x=none→H dx=none→dx≠x→eI K n F (.ref x::(vs++[])) (bL (bL H dx (.own x)) x (.ins Ca dx [])) (fun v H2=>v= .non∧Q (.ref x) H2) E:=by
 intro x dx hx hdx hne
 rw[List.append_nil]
 unfold xh at w
 have sm:Same H (bL (bL H dx (.own x)) x (.ins Ca dx [])):=(cb hdx _).trans (cb (by rw[aX (fun z=>hne z.symm)];exact hx) _)
 have e:Evo α ω H (α++[x]) (ω++[.obj C []]) (bL (bL H dx (.own x)) x (.ins Ca dx [])):=Evo.newS s.len sm hx
 have s1:StoOk B K (bL (bL H dx (.own x)) x (.ins Ca dx [])) (α++[x]) (ω++[.obj C []]):=s.newS sm hx (by rw[aO];simp) ⟨Ca,dx,[],hc,aO,.nil⟩
 have hx':∀{α':List Addr} {ω':bz} {H':Hp},Evo (α++[x]) (ω++[.obj C []]) (bL (bL H dx (.own x)) x (.ins Ca dx [])) α' ω' H'→VOk (ow B α' ω') K H' α' (.ref x) (.rf ω.length):=fun e=>⟨x,e.pre _ _ (by rw[←s.len];exact bK),rfl⟩
 by_cases hn:(SV.rf ω.length::xs).length=n
 ·rw[if_pos hn] at w
  have hp:VsOk (ow B (α++[x]) (ω++[.obj C []])) K (bL (bL H dx (.own x)) x (.ins Ca dx [])) (α++[x]) (.ref x::vs) (.rf ω.length::xs):= .cons (hx' .refl) (VsOk.evo e hv)
  refine⟨hp.length.trans hn,B,_,_,_,s1,hp,?_⟩
  refine WS.imp (WS.from e w.bind) fun r α2 ω2 H2 e2 s2 w2 v hv2=> ?_
  by_cases z:Ay r=true
  ·rw[if_pos z] at w2
   exact⟨Dv z hv2,WS.now s2 w2 _ (hx' e2)⟩
  ·rw[if_neg z] at w2;exact w2.elim
 ·rw[if_neg hn] at w;exact w.elim
theorem Bx {C:Str} {Ca:Addr} {F:gX} {n:Nat} {ta:TA} {fa:kl} (hc:PySem.W.nsIn K mainGlobals C=some (some (.ref Ca))) (ha:zj K E ta fa):eG K E (AG Ca (eI K n F) [] E0 ta) (qN C F n fa):=by
 intro B σ H α ω ρ Q s sl w
 refine ha B σ H α ω ρ _ s sl (w.bind.imp fun xs α1 ω1 H1 e1 s1 w1 vs hv=> ?_)
 exact Fg hc s1 hv (WS.e0 w1)
noncomputable def jk (ω:bz):SV→Option (Nat×List SV)
 | .rf i=>match ω[i]? with
  |some (.lst xs)=>some (i,xs)
  |_=>none
 |_=>none
theorem xm {x:SV} {i:Nat} {xs:List SV} (s:StoOk B K H α ω) (hv:VOk (ow B α ω) K H α v x) (h:jk ω x=some (i,xs)):ω[i]? =some (.lst xs)∧∃a vs,α[i]? =some a∧v= .ref a∧H a=some (.lst vs)∧VsOk (ow B α ω) K H α vs xs:=by
 cases x with
 |fz d=>cases h
 |tp l=>cases h
 |rf j=>
  obtain⟨a,ha,rfl⟩:=hv
  unfold jk at h
  dsimp only at h
  cases q:ω[j]? with
  |none=>rw[q] at h;cases h
  |some c=>
   rw[q] at h
   cases c with
   |lst ys=>
    have e:=Option.some.inj h
    cases e
    obtain⟨vs,h1,h2⟩:=s.cel i a _ ha q
    exact⟨q,a,vs,ha,rfl,h1,h2⟩
   |_=>cases h
theorem rl {β:Type} {R:V→β→Prop} {vs:List V} {xs:List β} {v:V} {x:β} (h:Paired R vs xs) (r:R v x):Paired R (vs++[v]) (xs++[x]):=by
 induction h with
 |nil=>exact .cons r .nil
 |cons a _ ih=>exact .cons a ih
noncomputable def pU (fo fe:cB):cB:=fun ρ ω=>(fo ρ ω).bind fun o ω1=>(RS.ofO ω1 (jk ω1 o)).bind fun _ ω1=>(fe ρ ω1).bind fun x ω2=>(RS.ofO ω2 (jk ω2 o)).bind fun p ω3=>
 if p.2.length<1000000 then .ok (.fz .none) (ω3.set p.1 (.lst (p.2++[x]))) else .bad
theorem kX {to te:TE} {fo fe:cB} (ho:eG K E to fo) (he:eG K E te fe):eG K E (HC K "list" tq to (j5 te pp)) (pU fo fe):=by
 intro B σ H α ω ρ Q s sl w
 refine ho B σ H α ω ρ _ s sl (w.bind.imp fun o α1 ω1 H1 e1 s1 w1 v hv=> ?_)
 obtain⟨⟨i0,xs0⟩,q0,w1⟩:=WS.ofO w1
 obtain⟨_,a0,vs0,_,rfl,g0,_⟩:=xm s1 hv q0
 refine⟨.inl ⟨rfl,vs0,SqL.of g0⟩,?_⟩
 refine he B σ H1 α1 ω1 ρ _ s1 (sl.evo e1) (w1.bind.imp fun x α2 ω2 H2 e2 s2 w2 u hu=> ?_)
 obtain⟨⟨i,xs⟩,q,w2⟩:=WS.ofO w2
 obtain⟨qi,a,vs,ha,ea,g1,g2⟩:=xm s2 (hv.evo e2) q
 cases ea
 dsimp only at w2
 by_cases hn:xs.length<1000000
 ·rw[if_pos hn] at w2
  have ev:Ev (ow B α2 ω2) H2 (ow B α2 ω2) (bL H2 a0 (.lst (vs++[u]))):=sT ha qi (by intro z;cases z)
  refine⟨a0,vs,u,rfl,rfl,g1,qE (by rw[g2.length];exact hn),?_⟩
  exact w2 α2 _ (Evo.put ha qi (by intro z;cases z) (by intro z;cases z)) (s2.put ha qi (by intro z;cases z) (by intro z;cases z) ⟨_,aO,rl (Paired.mapP g2 fun _ _ r=>r.ev ev fun _ _ h=>h) (hu.ev ev fun _ _ h=>h)⟩) _ .non
 ·rw[if_neg hn] at w2;exact w2.elim
end
end L10
namespace L10
open PySem L2 L3
inductive FlS where
 |nx (ρ:cg)
 |bk (ρ:cg)
 |ct (ρ:cg)
 |rt (x:SV)
abbrev fu:=cg→bz→RS FlS
abbrev nk:=SV→cg→bz→RS cg
abbrev vj:=List SV→cg→bz→RS cg
def AY (B:b6) (K:PySem.W.Frag) (D:Ends):FlS→List Addr→bz→Hp→Prop
 | .nx ρ,α,ω,H=>∀σ,SlOk (ow B α ω) K H α σ ρ→D.nx σ H
 | .bk ρ,α,ω,H=>∀σ,SlOk (ow B α ω) K H α σ ρ→D.bk σ H
 | .ct ρ,α,ω,H=>∀σ,SlOk (ow B α ω) K H α σ ρ→D.ct σ H
 | .rt x,α,ω,H=>∀v,VOk (ow B α ω) K H α v x→D.rt v H
def u8 (K:PySem.W.Frag) (E:XK) (t:TS) (g:fu):Prop:=
 ∀(B:b6) (σ:L2.St) (H:Hp) (α:List Addr) (ω:bz) (ρ:cg) (D:Ends),StoOk B K H α ω→SlOk (ow B α ω) K H α σ ρ→WS K E B H α ω (AY B K D) (g ρ ω)→t D σ H
def Ed (K:PySem.W.Frag) (E:XK) (g:TG) (f:nk):Prop:=
 ∀(B:b6) (σ:L2.St) (H:Hp) (α:List Addr) (ω:bz) (ρ:cg) (v:V) (x:SV) (Q:L2.St→Hp→Prop),StoOk B K H α ω→SlOk (ow B α ω) K H α σ ρ→VOk (ow B α ω) K H α v x→WS K E B H α ω (fun ρ' α' ω' H'=>∀σ',SlOk (ow B α' ω') K H' α' σ' ρ'→Q σ' H') (f x ρ ω)→g v σ H Q
def Cw (K:PySem.W.Frag) (E:XK) (g:yJ) (f:vj):Prop:=
 ∀(B:b6) (σ:L2.St) (H:Hp) (α:List Addr) (ω:bz) (ρ:cg) (vs:List V) (xs:List SV) (Q:L2.St→Hp→Prop),StoOk B K H α ω→SlOk (ow B α ω) K H α σ ρ→VsOk (ow B α ω) K H α vs xs→WS K E B H α ω (fun ρ' α' ω' H'=>∀σ',SlOk (ow B α' ω') K H' α' σ' ρ'→Q σ' H') (f xs ρ ω)→g vs σ H Q
section
variable {B O O':b6} {K:PySem.W.Frag} {E:XK} {H H' H1 H2:Hp} {α α' α1 α2:List Addr} {ω ω' ω1 ω2:bz} {σ:L2.St} {ρ:cg} {v:V}
theorem SlOk.set {i:Nat} {x:SV} (sl:SlOk O K H α σ ρ) (h:VOk O K H α v x):SlOk O K H α (σ.set i (some v)) (ρ.set i (some x)):=by
 refine⟨by rw[List.length_set,List.length_set];exact sl.1,fun j y hy=> ?_⟩
 rcases cy hy with⟨rfl,e⟩|⟨hne,hy'⟩
 ·cases e
  refine⟨v,?_,h⟩
  rw[List.getElem?_set_self]
  have:=sR hy
  rw[sl.1];exact this
 ·obtain⟨u,h1,h2⟩:=sl.2 j y hy'
  exact⟨u,by rw[List.getElem?_set_ne (fun z=>hne z.symm)];exact h1,h2⟩
noncomputable def fM (i:Nat):nk:=fun x ρ ω=> .ok (ρ.set i (some x)) ω
theorem aM {i:Nat}:Ed K E (tX i) (fM i):=fun B σ H α ω ρ v x Q s sl h w=>WS.now s w _ (sl.set h)
noncomputable def yq:vj:=fun xs ρ ω=>match xs with
 |[]=> .ok ρ ω
 |_=> .bad
noncomputable def pi (f:nk) (g:vj):vj:=fun xs ρ ω=>match xs with
 |x::r=>(f x ρ ω).bind fun ρ1 ω1=>g r ρ1 ω1
 |[]=> .bad
theorem rC:Cw K E El yq:=by
 intro B σ H α ω ρ vs xs Q s sl h w
 cases h with
 |nil=>exact⟨rfl,WS.now s w _ sl⟩
 |cons _ _=>exact w.elim
theorem g7 {t:TG} {u:yJ} {f:nk} {g:vj} (h1:Ed K E t f) (h2:Cw K E u g):Cw K E (AF t u) (pi f g):=by
 intro B σ H α ω ρ vs xs Q s sl h w
 cases h with
 |nil=>exact w.elim
 |cons a b=>
  refine⟨_,_,rfl,h1 B σ H α ω ρ _ _ _ s sl a (WS.imp (WS.bind w) fun ρ1 α1 ω1 H1 e1 s1 w1 σ1 sl1=> ?_)⟩
  exact h2 B σ1 H1 α1 ω1 ρ1 _ _ _ s1 sl1 (VsOk.evo e1 b) w1
noncomputable def Bp:SV→Option (List SV)
 | .fz (.tuple ds)=>some (ds.map .fz)
 | .tp l=>some (l.map AV.sv)
 |_=>none
theorem Fp {x:SV} {xs:List SV} (h:VOk O K H α v x) (e:Bp x=some xs):∃a vs,v= .ref a∧SqTO O K H a vs∧VsOk O K H α vs xs:=by
 unfold Bp at e
 split at e
 ·cases e
  cases h with
  |tup h hs=>exact⟨_,_,rfl,h,lW _ _ hs⟩
 ·cases e
  obtain⟨a,ys,rfl,h1,h2⟩:=h
  exact⟨a,ys,rfl,h1,tE h2⟩
 ·cases e
noncomputable def F5 (n:Nat) (f:vj):nk:=fun x ρ ω=>(RS.ofO ω (Bp x)).bind fun xs ω1=>if xs.length=n then f xs ρ ω1 else .bad
theorem rN {n:Nat} {t:yJ} {f:vj} (h:Cw K E t f):Ed K E (Fq K n t) (F5 n f):=by
 intro B σ H α ω ρ v x Q s sl hv w
 obtain⟨xs,q,w⟩:=WS.ofO w
 obtain⟨a,vs,rfl,h1,h2⟩:=Fp hv q
 by_cases hn:xs.length=n
 ·rw[if_pos hn] at w
  exact⟨a,vs,rfl,h1.1,h2.length.trans hn,h B σ H α ω ρ vs xs Q s sl h2 w⟩
 ·rw[if_neg hn] at w;exact w.elim
noncomputable def dh:fu:=fun ρ ω=> .ok (.nx ρ) ω
noncomputable def bc (f g:fu):fu:=fun ρ ω=>(f ρ ω).bind fun fl ω1=>match fl with
 | .nx ρ1=>g ρ1 ω1
 |fl=> .ok fl ω1
noncomputable def cK (f:cB):fu:=fun ρ ω=>(f ρ ω).bind fun _ ω1=> .ok (.nx ρ) ω1
noncomputable def eA (f:cB) (g:nk):fu:=fun ρ ω=>(f ρ ω).bind fun x ω1=>(g x ρ ω1).bind fun ρ1 ω2=> .ok (.nx ρ1) ω2
noncomputable def cY (c:gZ) (f g:fu):fu:=fun ρ ω=>(c ρ ω).bind fun b ω1=>if b=true then f ρ ω1 else g ρ ω1
noncomputable def gi (f:cB):fu:=fun ρ ω=>(f ρ ω).bind fun x ω1=> .ok (.rt x) ω1
noncomputable def qI:fu:=fun _ ω=> .ok (.rt (.fz .none)) ω
theorem b8:u8 K E BB dh:=fun B σ H α ω ρ D s sl w=>WS.now s w σ sl
theorem o0:u8 K E D5 qI:=fun B σ H α ω ρ D s sl w=>WS.now s w .non .non
theorem aH {t u:TS} {f g:fu} (h1:u8 K E t f) (h2:u8 K E u g):u8 K E (Et t u) (bc f g):=by
 intro B σ H α ω ρ D s sl w
 refine h1 B σ H α ω ρ {D with nx:=u D} s sl (WS.imp (WS.bind w) fun fl α1 ω1 H1 e1 s1 w1=> ?_)
 cases fl with
 |nx ρ1=>exact fun σ1 sl1=>h2 B σ1 H1 α1 ω1 ρ1 D s1 sl1 w1
 |rt x=>exact WS.now (E:=E) s1 w1
 |bk ρ1=>exact WS.now (E:=E) s1 w1
 |ct ρ1=>exact WS.now (E:=E) s1 w1
theorem b9 {t:TE} {f:cB} (h:eG K E t f):u8 K E (Ai t) (cK f):=by
 intro B σ H α ω ρ D s sl w
 exact h B σ H α ω ρ _ s sl (WS.imp (WS.bind w) fun x α1 ω1 H1 e1 s1 w1 v hv=>WS.now s1 w1 σ (sl.evo e1))
theorem bF {t:TE} {f:cB} {g:TG} {fg:nk} (h:eG K E t f) (hg:Ed K E g fg):u8 K E (AU t g) (eA f fg):=by
 intro B σ H α ω ρ D s sl w
 refine h B σ H α ω ρ _ s sl (WS.imp (WS.bind w) fun x α1 ω1 H1 e1 s1 w1 v hv=> ?_)
 exact hg B σ H1 α1 ω1 ρ v x _ s1 (sl.evo e1) hv (WS.imp (WS.bind w1) fun ρ1 α2 ω2 H2 e2 s2 w2 σ2 sl2=>WS.now s2 w2 σ2 sl2)
theorem cH {c:TT} {fc:gZ} {t u:TS} {f g:fu} (hc:uh K E c fc) (h1:u8 K E t f) (h2:u8 K E u g):u8 K E (FK c t u) (cY fc f g):=by
 intro B σ H α ω ρ D s sl w
 refine hc B σ H α ω ρ _ s sl (WS.imp (WS.bind w) fun b α1 ω1 H1 e1 s1 w1=> ?_)
 cases b with
 |true=>exact h1 B σ H1 α1 ω1 ρ D s1 (sl.evo e1) w1
 |false=>exact h2 B σ H1 α1 ω1 ρ D s1 (sl.evo e1) w1
theorem dw {t:TE} {f:cB} (h:eG K E t f):u8 K E (EI t) (gi f):=by
 intro B σ H α ω ρ D s sl w
 exact h B σ H α ω ρ _ s sl (WS.imp (WS.bind w) fun x α1 ω1 H1 e1 s1 w1 v hv=>WS.now s1 w1 v hv)
noncomputable def eK (f:Str) (x:SV):List (Str×SV)→List (Str×SV)
 |[]=>[(f,x)]
 |(g,y)::r=>if g=f then(g,x)::r else(g,y)::eK f x r
theorem z4 {f:Str} {x:SV} (h:VOk O K H α v x):∀{ws:List (Str×V)} {fs:List (Str×SV)},Paired (fun(p:Str×V) (q:Str×SV)=>p.1=q.1∧VOk O K H α p.2 q.2) ws fs→Paired (fun(p:Str×V) (q:Str×SV)=>p.1=q.1∧VOk O K H α p.2 q.2) (ic f v ws) (eK f x fs)
 |_,_,.nil=> .cons ⟨rfl,h⟩ .nil
 |(g,u)::ws,(g',y)::fs,.cons ⟨e,k⟩ t=>by
  cases e
  unfold ic eK
  by_cases z:g=f
  ·rw[if_pos z,if_pos z];exact .cons ⟨rfl,h⟩ t
  ·rw[if_neg z,if_neg z];exact .cons ⟨rfl,k⟩ (z4 h t)
noncomputable def zo (ω:bz) (C:Str):SV→Option (Nat×List (Str×SV))
 | .rf i=>match ω[i]? with
  |some (.obj D fs)=>if D=C then some (i,fs) else none
  |_=>none
 |_=>none
theorem G2 {C:Str} {x:SV} {i:Nat} {fs:List (Str×SV)} (s:StoOk B K H α ω) (hv:VOk (ow B α ω) K H α v x) (h:zo ω C x=some (i,fs)):ω[i]? =some (.obj C fs)∧∃a Ca dx ws,α[i]? =some a∧v= .ref a∧PySem.W.nsIn K mainGlobals C=some (some (.ref Ca))∧H a=some (.ins Ca dx ws)∧Paired (fun(p:Str×V) (q:Str×SV)=>p.1=q.1∧VOk (ow B α ω) K H α p.2 q.2) ws fs:=by
 cases x with
 |fz d=>cases h
 |tp l=>cases h
 |rf j=>
  obtain⟨a,ha,rfl⟩:=hv
  unfold zo at h
  dsimp only at h
  cases q:ω[j]? with
  |none=>rw[q] at h;cases h
  |some c=>
   rw[q] at h
   cases c with
   |obj D gs=>
    dsimp only at h
    by_cases z:D=C
    ·subst z
     rw[if_pos rfl] at h
     have e:=Option.some.inj h
     cases e
     obtain⟨Ca,dx,ws,h0,h1,h2⟩:=s.cel i a _ ha q
     exact⟨q,a,Ca,dx,ws,ha,rfl,h0,h1,h2⟩
    ·rw[if_neg z] at h;cases h
   |_=>cases h
noncomputable def gq (C f:Str) (fo fe:cB):fu:=fun ρ ω=>(fe ρ ω).bind fun x ω1=>(fo ρ ω1).bind fun o ω2=>(RS.ofO ω2 (zo ω2 C o)).bind fun p ω3=>if p.2.length<100 then .ok (.nx ρ) (ω3.set p.1 (.obj C (eK f x p.2))) else .bad
theorem eF {C f:Str} {L:List Str} {to te:TE} {fo fe:cB} (hc:hV K C L) (hf:f∈L) (ho:eG K E to fo) (he:eG K E te fe):u8 K E (Gd K to te f) (gq C f fo fe):=by
 intro B σ H α ω ρ D s sl w
 refine he B σ H α ω ρ _ s sl (WS.imp (WS.bind w) fun x α1 ω1 H1 e1 s1 w1 v hv=> ?_)
 refine ho B σ H1 α1 ω1 ρ _ s1 (sl.evo e1) (WS.imp (WS.bind w1) fun o α2 ω2 H2 e2 s2 w2 u hu=> ?_)
 obtain⟨⟨i,fs⟩,q,w2⟩:=WS.ofO w2
 obtain⟨qi,a,Ca,dx,ws,ha,rfl,h0,h1,h2⟩:=G2 s2 hu q
 obtain⟨Cb,g0,g1,g2⟩:=hc
 rw[h0] at g0
 cases g0
 dsimp only at w2
 by_cases hn:fs.length<100
 ·rw[if_pos hn] at w2
  have ev:Ev (ow B α2 ω2) H2 (ow B α2 ω2) (bL H2 a (.ins Ca dx (ic f v ws))):=sT ha qi (by intro z;cases z)
  have e3:Evo α2 ω2 H2 α2 (ω2.set i (.obj C (eK f x fs))) (bL H2 a (.ins Ca dx (ic f v ws))):=Evo.put ha qi (by intro z;cases z) (by intro z;cases z)
  have hl:ws.length=fs.length:=Paired.length h2
  refine⟨a,Ca,dx,ws,rfl,h1,g1,g2 f hf,by omega,?_⟩
  refine w2 α2 _ e3 (s2.put ha qi (by intro z;cases z) (by intro z;cases z) ⟨Ca,dx,_,h0,aO,z4 ((hv.evo e2).ev ev fun _ _ h=>h) (Paired.mapP h2 fun _ _ r=>⟨r.1,r.2.ev ev fun _ _ h=>h⟩)⟩) σ ((sl.evo (e1.trans e2)).evo e3)
 ·rw[if_neg hn] at w2;exact w2.elim
abbrev Du:=cg→bz→RS (List D)
def Hr (K:PySem.W.Frag) (E:XK) (wi:TI) (fi:Du):Prop:=
 ∀(B:b6) (σ:L2.St) (H:Hp) (α:List Addr) (ω:bz) (ρ:cg) (R':It→Hp→Prop),StoOk B K H α ω→SlOk (ow B α ω) K H α σ ρ→WS K E B H α ω (fun ds α' ω' H'=>∀J,u0 K J (ow B α' ω') H' ds→R' J H') (fi ρ ω)→wi σ H R'
noncomputable def mv (f:FI):Du:=fun ρ ω=>match f (bW ρ) with
 | .ok (ds,_)=> .ok ds ω
 | .er x=> .er x ω
 | .bad=> .bad
theorem n9 {wi:TI} {f:FI} (h:IO K E wi f):Hr K E wi (mv f):=by
 intro B σ H α ω ρ R' s sl w
 refine h (ow B α ω) H (ow B α ω) σ H (bW ρ) R' (BM s sl) ?_
 unfold mv at w
 cases q:f (bW ρ) with
 |bad=>rw[q] at w;exact w.elim
 |er x=>rw[q] at w;exact fun c dx H' e k=>w c dx α H' (Evo.same e) (s.grow e) k
 |ok r=>
  obtain⟨ds,ρ'⟩:=r
  rw[q] at w
  exact fun O' J H' e R it=>w α H' (Evo.same R.same) (s.grow R.same) J fun O2 H2 e2 n=>it O2 H2 (fun b o h z=>e2 b o h fun y=>z (R.bo b y)) n
noncomputable def g8 (fe:cB):Du:=fun ρ ω=>(fe ρ ω).bind fun x ω1=>(match frz 4 ω1 x with
 |some (d,ω2)=>RS.ofO ω2 (eT d)
 |none=> .bad)
theorem sX {tl:TE} {fe:cB} (h:eG K E tl fe):Hr K E (zZ K tl) (g8 fe):=by
 intro B σ H α ω ρ R' s sl w
 refine h B σ H α ω ρ _ s sl (WS.imp (WS.bind w) fun x α1 ω1 H1 e1 s1 w1 v hv=> ?_)
 cases q:frz 4 ω1 x with
 |none=>rw[q] at w1;exact w1.elim
 |some p=>
  obtain⟨d,ω2⟩:=p
  rw[q] at w1
  obtain⟨s2,e2,d2⟩:=tI 4 s1 hv q
  dsimp only at w1
  cases qs:eT d with
  |none=>rw[qs] at w1;exact w1.elim
  |some ds=>
   rw[qs] at w1
   cases d2 with
   |tup h hs=>cases qs;exact⟨_,rfl,.inr ⟨⟨_,h.1⟩,w1 α1 H1 e2 s2 _ (zN h hs)⟩⟩
   |lst h hs=>cases qs;exact⟨_,rfl,.inl ⟨⟨_,h.1.sq⟩,w1 α1 H1 e2 s2 _ (xK h hs)⟩⟩
   |_=>cases qs
noncomputable def ml (gt:nk) (b:fu):List D→fu
 |[],ρ,ω=> .ok (.nx ρ) ω
 |d::r,ρ,ω=>(gt (.fz d) ρ ω).bind fun ρ1 ω1=>(b ρ1 ω1).bind fun fl ω2=>match fl with
  | .nx ρ2=>ml gt b r ρ2 ω2
  | .ct ρ2=>ml gt b r ρ2 ω2
  | .bk ρ2=> .ok (.nx ρ2) ω2
  | .rt x=> .ok (.rt x) ω2
noncomputable def uB (fi:Du) (gt:nk) (b:fu):fu:=fun ρ ω=>(fi ρ ω).bind fun ds ω1=>ml gt b ds ρ ω1
theorem tH {wi:TI} {fi:Du} {g:TG} {gt:nk} {tb:TS} {b:fu} (hi:Hr K E wi fi) (hg:Ed K E g gt) (hb:u8 K E tb b):u8 K E (FJ wi g tb) (uB fi gt b):=by
 intro B σ H α ω ρ D s sl w
 refine hi B σ H α ω ρ _ s sl (WS.imp (WS.bind w) fun ds α1 ω1 H1 e1 s1 w1 J it=> ?_)
 refine⟨fun i m σ' H'=>m=ds.length - i∧i≤ds.length∧∃α2 ω2 ρ2,Evo α1 ω1 H1 α2 ω2 H'∧StoOk B K H' α2 ω2∧SlOk (ow B α2 ω2) K H' α2 σ' ρ2∧WS K E B H' α2 ω2 (AY B K D) (ml gt b (ds.drop i) ρ2 ω2),⟨_,rfl,Nat.zero_le _,α1,ω1,ρ,.refl,s1,sl.evo e1,w1⟩,?_⟩
 rintro i m σ2 H2 ⟨rfl,hi,α2,ω2,ρ2,e2,s2,sl2,w2⟩
 obtain⟨go,stop⟩:=it (ow B α2 ω2) H2 e2.ev s2.noO
 by_cases hlt:i<ds.length
 ·obtain⟨g1,g2⟩:=go i hlt
  refine .inr ⟨g1,fun σ' H'=>i+1≤ds.length∧∃α2 ω2 ρ2,Evo α1 ω1 H1 α2 ω2 H'∧StoOk B K H' α2 ω2∧SlOk (ow B α2 ω2) K H' α2 σ' ρ2∧WS K E B H' α2 ω2 (AY B K D) (ml gt b (ds.drop (i+1)) ρ2 ω2),fun σ' H' ⟨h1,h2⟩=>⟨ds.length - (i+1),by omega,rfl,h1,h2⟩,fun x H3 y=> ?_⟩
  obtain⟨s3,d,hd,dv⟩:=g2 x H3 y
  have ed:ds.drop i=d::ds.drop (i+1):=by
   obtain⟨_,q⟩:=List.getElem?_eq_some_iff.mp hd
   rw[List.drop_eq_getElem_cons hlt,q]
  rw[ed] at w2
  have e3:Evo α2 ω2 H2 α2 ω2 H3:=Evo.same s3
  refine hg B σ2 H3 α2 ω2 ρ2 x (.fz d) _ (s2.grow s3) (sl2.evo e3) dv (WS.imp (WS.bind (WS.from e3 w2)) fun ρ3 α4 ω4 H4 e4 s4 w3 σ4 sl4=> ?_)
  refine hb B σ4 H4 α4 ω4 ρ3 _ s4 sl4 (WS.imp (WS.bind w3) fun fl α5 ω5 H5 e5 s5 w4=> ?_)
  have e5':Evo α1 ω1 H1 α5 ω5 H5:=e2.trans (e3.trans (e4.trans e5))
  cases fl with
  |nx ρ5=>exact fun σ5 sl5=>⟨hlt,α5,ω5,ρ5,e5',s5,sl5,w4⟩
  |ct ρ5=>exact fun σ5 sl5=>⟨hlt,α5,ω5,ρ5,e5',s5,sl5,w4⟩
  |bk ρ5=>exact WS.now (E:=E) s5 w4
  |rt x=>exact WS.now (E:=E) s5 w4
 ·have e:i=ds.length:=by omega
  subst e
  rw[List.drop_eq_nil_of_le (Nat.le_refl _)] at w2
  exact .inl ⟨stop,WS.now (E:=E) s2 w2 σ2 sl2⟩
end
end L10
namespace L10
open PySem L2 L3
section
variable {B O O':b6} {K:PySem.W.Frag} {E:XK} {H H' H1 H2:Hp} {α α' α1 α2:List Addr} {ω ω' ω1 ω2:bz} {σ:L2.St} {ρ:cg} {v:V}
noncomputable def bS (gt:nk) (ft:gZ) (fe:cB):List D→cg→bz→List SV→RS (List SV)
 |[],_,ω,acc=> .ok acc ω
 |d::r,ρ,ω,acc=>(gt (.fz d) ρ ω).bind fun ρ1 ω1=>(ft ρ1 ω1).bind fun b ω2=>if b=true then(fe ρ1 ω2).bind fun x ω3=>(if acc.length<1000000 then bS gt ft fe r ρ1 ω3 (acc++[x]) else .bad) else bS gt ft fe r ρ1 ω2 acc
noncomputable def fS (n:Nat) (fj:List Nat) (ρ:cg):cg:=List.replicate n none++fj.map fun j=>(ρ[j]?).join
noncomputable def j8 (n:Nat) (fj:List Nat) (fi:Du) (gt:nk) (ft:gZ) (fe:cB):cB:=fun ρ ω=>(fi ρ ω).bind fun ds ω1=>(i6 (bS gt ft fe ds (fS n fj ρ) ω1 [])).bind fun xs ω2=> .ok (.rf ω2.length) (ω2++[.lst xs])
theorem xa {own:List Str} {fv:List (Str×Nat)} {n:Nat} {fj:List Nat} (hn:own.length=n) (hf:fv.map (·.2)=fj) (sl:SlOk O K H α σ ρ):SlOk O K H α (gr own fv σ) (fS n fj ρ):=by
 unfold gr fS
 rw[xT hn]
 have hl:fv.length=fj.length:=by rw[←hf,List.length_map]
 refine⟨by rw[List.length_append,List.length_append,List.length_replicate,List.length_replicate,List.length_map,List.length_map,hl],fun j x hx=> ?_⟩
 by_cases hj:j<n
 ·rw[List.getElem?_append_left (by rw[List.length_replicate];exact hj),List.getElem?_replicate,if_pos hj] at hx
  cases hx
 ·rw[List.getElem?_append_right (by rw[List.length_replicate];omega),List.length_replicate,List.getElem?_map] at hx⊢
  subst hf
  rw[List.getElem?_map] at hx
  cases q:fv[j - n]? with
  |none=>rw[q] at hx;cases hx
  |some p=>
   rw[q] at hx
   have hx':(ρ[p.2]?).join=some x:=Option.some.inj hx
   have hx2:ρ[p.2]? =some (some x):=by
    cases qq:ρ[p.2]? with
    |none=>rw[qq] at hx';cases hx'
    |some o=>rw[qq] at hx';exact congrArg some hx'
   obtain⟨u,h1,h2⟩:=sl.2 p.2 x hx2
   exact⟨u,by show some ((σ[p.2]?).join)=_;rw[h1];rfl,h2⟩
theorem AR {p:Addr} {c:Cell} (hl:α.length=ω.length) (hc:c≠ .dead):ow (ck B p) α ω=ow B (α++[p]) (ω++[c]):=by
 funext b
 refine propext ⟨fun z=> ?_,fun z=> ?_⟩
 ·rcases z with(z|z)|⟨i,d,h1,h2,h3⟩
  ·exact .inl z
  ·exact .inr ⟨α.length,c,by rw[z];exact bK,by rw[hl];exact bK,hc⟩
  ·exact .inr ⟨i,d,fN h1,fN h2,h3⟩
 ·rcases z with z|z
  ·exact .inl (.inl z)
  ·rcases oZ hl z with z|z
   ·exact .inr z
   ·exact .inl (.inr z)
theorem StoOk.adopt {p:Addr} {vs:List V} {xs:List SV} (s:StoOk (ck B p) K H α ω) (hp:H p=some (.lst vs)) (hv:VsOk (ow (ck B p) α ω) K H α vs xs) (hB:¬B p):StoOk B K H (α++[p]) (ω++[.lst xs]):=by
 have eo:ow (ck B p) α ω=ow B (α++[p]) (ω++[.lst xs]):=AR s.len (by intro z;cases z)
 have pre:∀(i:Nat) (a:Addr),α[i]? =some a→(α++[p])[i]? =some a:=fun i a h=>fN h
 have np:∀i:Nat,α[i]?≠some p:=s.ba p (.inr rfl)
 refine⟨by rw[List.length_append,List.length_append,s.len];rfl,fun i j a h1 h2=> ?_,fun a h=>s.bn a (.inl h),fun a h i q=> ?_,fun i a h=> ?_,fun i a d h1 h2=> ?_⟩
 ·rcases cc h1 with g1|⟨e1,e2⟩<;>rcases cc h2 with g2|⟨e3,e4⟩
  ·exact s.nd i j a g1 g2
  ·rw[e4] at g1;exact absurd g1 (np i)
  ·rw[e2] at g2;exact absurd g2 (np j)
  ·omega
 ·rcases cc q with q|⟨_,e2⟩
  ·exact s.ba a (.inl h) i q
  ·subst e2;exact hB h
 ·rcases cc h with h|⟨_,e2⟩
  ·exact s.al i a h
  ·rw[e2,hp];simp
 ·rw[←eo]
  rcases cc h2 with g2|⟨e1,e2⟩
  ·rcases cc h1 with g1|⟨e1,_⟩
   ·exact(s.cel i a d g1 g2).ev .refl pre fun o q=>q
   ·have:=(List.getElem?_eq_some_iff.mp g2).1;have:=s.len;omega
  ·rcases cc h1 with g1|⟨_,e3⟩
   ·have:=(List.getElem?_eq_some_iff.mp g1).1;have:=s.len;omega
   ·rw[e2,e3]
    exact⟨vs,hp,Paired.mapP hv fun _ _ r=>r.ev .refl pre⟩
theorem StoOk.hide {p:Addr} {o:HO} (s:StoOk B K H α ω) (hp:H p=none):StoOk (ck B p) K (bL H p o) α ω:=by
 have sm:Same H (bL H p o):=cb hp o
 have g:=s.grow sm
 have ev:Ev (ow B α ω) H (ow (ck B p) α ω) (bL H p o):=fun b u h n=>⟨sm b u h,fun z=>z.elim (fun z=>z.elim (fun z=>n (.inl z)) fun z=>by rw[z,hp] at h;cases h) fun z=>n (.inr z)⟩
 refine⟨g.len,g.nd,fun a h=>h.elim (g.bn a) fun e=>by rw[e,aO];simp,fun a h i q=>h.elim (fun h=>g.ba a h i q) fun e=>by rw[e] at q;exact s.al i p q hp,g.al,fun i a c h1 h2=> ?_⟩
 exact(s.cel i a c h1 h2).ev ev (fun _ _ h=>h) fun o q=>sm _ _ q
theorem StoOk.hmut {p:Addr} {o o':HO} (s:StoOk (ck B p) K H α ω) (hp:H p=some o):StoOk (ck B p) K (bL H p o') α ω:=by
 have ev:Ev (ow (ck B p) α ω) H (ow (ck B p) α ω) (bL H p o'):=Ev.mut (.inl (.inr rfl)) o'
 have n:∀b,H b≠none→bL H p o' b≠none:=fun b h=>by
  by_cases z:b=p
  ·subst z;rw[aO];simp
  ·rw[aX z];exact h
 refine⟨s.len,s.nd,fun a h=>n a (s.bn a h),s.ba,fun i a h=>n a (s.al i a h),fun i a c h1 h2=>(s.cel i a c h1 h2).ev ev (fun _ _ h=>h) fun u q=> ?_⟩
 have:a≠p:=fun z=>s.ba p (.inr rfl) i (by rw[←z];exact h1)
 rw[aX this];exact q
theorem Evo.dd {p:Addr} {o:HO} (e:Evo α1 ω1 H1 α ω H) (hp:H1 p=none):Evo α1 ω1 H1 α ω (bL H p o):=⟨e.pre,fun b u h n=>by rw[aX (cj h hp)];exact e.kp b u h n,e.lv⟩
theorem oO {own:List Str} {fv:List (Str×Nat)} {wi:TI} {g:TG} {tc:TT} {te:TE} {fi:Du} {gt:nk} {ft:gZ} {fe:cB} {n:Nat} {fj:List Nat} (hn:own.length=n) (hf:fv.map (·.2)=fj)
  (hi:Hr K E wi fi) (hg:Ed K E0 g gt) (ht:uh K E0 tc ft) (he:eG K E0 te fe):eG K E (qY own fv wi g tc te) (j8 n fj fi gt ft fe):=by
 intro B σ H α ω ρ Q s sl w
 refine hi B σ H α ω ρ _ s sl (WS.imp (WS.bind w) fun ds α1 ω1 H1 e1 s1 w1 J it=> ?_)
 intro Dd hD
 have slc:SlOk (ow B α1 ω1) K H1 α1 (gr own fv σ) (fS n fj ρ):=xa hn hf (sl.evo e1)
 cases qr:bS gt ft fe ds (fS n fj ρ) ω1 [] with
 |er x ωf=>rw[qr] at w1;exact w1.elim
 |bad=>rw[qr] at w1;exact w1.elim
 |ok xs ωf=>
  rw[qr] at w1
  have w1:WS K E B H1 α1 ω1 (PQ B K Q) (.ok (.rf ωf.length) (ωf++[.lst xs])):=w1
  have hB:¬B Dd:=fun z=>s1.bn Dd z hD
  have evH:∀{α2:List Addr} {ω2:bz} {H':Hp},Evo α1 ω1 H1 α2 ω2 H'→Ev (ow B α1 ω1) H1 (ow (ck B Dd) α2 ω2) H':=fun e b o h n=>⟨e.kp b o h fun z=>n (.inr z),fun z=>by
   rcases z with(z|z)|z
   ·exact n (.inl z)
   ·rw[z,hD] at h;cases h
   ·exact(e.lv b z).elim (fun q=>n (.inr q)) fun q=>by rw[h] at q;cases q⟩
  refine⟨fun i m σ' H'=>m=ds.length - i∧i≤ds.length∧∃α2 ω2 ρc acc ys,Evo α1 ω1 H1 α2 ω2 H'∧StoOk (ck B Dd) K H' α2 ω2∧SlOk (ow (ck B Dd) α2 ω2) K H' α2 σ' ρc∧H' Dd=some (.lst ys)∧VsOk (ow (ck B Dd) α2 ω2) K H' α2 ys acc∧bS gt ft fe (ds.drop i) ρc ω2 acc= .ok xs ωf,
   ⟨_,rfl,Nat.zero_le _,α1,ω1,fS n fj ρ,[],[],Evo.same (cb hD _),s1.hide hD,?_,aO,.nil,qr⟩,?_⟩
  ·exact⟨slc.1,fun j x hx=>let⟨v,h1,h2⟩:=slc.2 j x hx;⟨v,h1,h2.ev (evH (Evo.same (cb hD _))) fun _ _ h=>h⟩⟩
  ·rintro i m σ2 H2 ⟨rfl,hi,α2,ω2,ρ2,acc,ys,e2,s2,sl2,hy,vy,qP⟩
   obtain⟨go,stop⟩:=it (ow (ck B Dd) α2 ω2) H2 (evH e2) s2.noO
   by_cases hlt:i<ds.length
   ·obtain⟨g1,g2⟩:=go i hlt
    refine .inr ⟨g1,fun σ5 H5=>i+1≤ds.length∧∃α2 ω2 ρc acc ys,Evo α1 ω1 H1 α2 ω2 H5∧StoOk (ck B Dd) K H5 α2 ω2∧SlOk (ow (ck B Dd) α2 ω2) K H5 α2 σ5 ρc∧H5 Dd=some (.lst ys)∧VsOk (ow (ck B Dd) α2 ω2) K H5 α2 ys acc∧bS gt ft fe (ds.drop (i+1)) ρc ω2 acc= .ok xs ωf,
     fun σ5 H5 ⟨h1,h2⟩=>⟨ds.length - (i+1),by omega,rfl,h1,h2⟩,fun x H3 y=> ?_⟩
    obtain⟨s3,d,hd,dv⟩:=g2 x H3 y
    have ed:ds.drop i=d::ds.drop (i+1):=by
     obtain⟨_,q⟩:=List.getElem?_eq_some_iff.mp hd
     rw[List.drop_eq_getElem_cons hlt,q]
    rw[ed] at qP
    unfold bS at qP
    have e3:Evo α2 ω2 H2 α2 ω2 H3:=Evo.same s3
    have kD:∀{αx αy:List Addr} {ωx ωy:bz} {Hx Hy:Hp} {o:HO},StoOk (ck B Dd) K Hx αx ωx→Evo αx ωx Hx αy ωy Hy→Hx Dd=some o→Hy Dd=some o:=fun sx ex h=>ex.kp _ _ h fun⟨i,c,q,_⟩=>sx.ba Dd (.inr rfl) i q
    refine hg (ck B Dd) σ2 H3 α2 ω2 ρ2 x (.fz d) _ (s2.grow s3) (sl2.evo e3) dv ?_
    cases qg:gt (.fz d) ρ2 ω2 with
    |er z ωz=>rw[qg] at qP;cases qP
    |bad=>rw[qg] at qP;cases qP
    |ok ρ4 ω4=>
     rw[qg] at qP
     intro α4 H4 e4 s4 σ4 sl4
     refine ht (ck B Dd) σ4 H4 α4 ω4 ρ4 _ s4 sl4 ?_
     have qP:((ft ρ4 ω4).bind fun b ω2=>if b=true then(fe ρ4 ω2).bind fun x ω3=>(if acc.length<1000000 then bS gt ft fe (ds.drop (i+1)) ρ4 ω3 (acc++[x]) else .bad) else bS gt ft fe (ds.drop (i+1)) ρ4 ω2 acc)= .ok xs ωf:=qP
     cases qt:ft ρ4 ω4 with
     |er z ωz=>rw[qt] at qP;cases qP
     |bad=>rw[qt] at qP;cases qP
     |ok b ω5=>
      rw[qt] at qP
      intro α5 H5 e5 s5
      have sl5:=sl4.evo e5
      have e35:=e3.trans (e4.trans e5)
      cases b with
      |false=>
       have qP:bS gt ft fe (ds.drop (i+1)) ρ4 ω5 acc= .ok xs ωf:=qP
       exact⟨hlt,α5,ω5,ρ4,acc,ys,e2.trans e35,s5,sl5,kD s2 e35 hy,VsOk.evo e35 vy,qP⟩
      |true=>
       have qP:((fe ρ4 ω5).bind fun x ω3=>(if acc.length<1000000 then bS gt ft fe (ds.drop (i+1)) ρ4 ω3 (acc++[x]) else .bad))= .ok xs ωf:=qP
       rw[if_pos rfl]
       refine he (ck B Dd) σ4 H5 α5 ω5 ρ4 _ s5 sl5 ?_
       cases qe:fe ρ4 ω5 with
       |er z ωz=>rw[qe] at qP;cases qP
       |bad=>rw[qe] at qP;cases qP
       |ok x6 ω6=>
        rw[qe] at qP
        intro α6 H6 e6 s6 v6 hv6
        have qP:(if acc.length<1000000 then bS gt ft fe (ds.drop (i+1)) ρ4 ω6 (acc++[x6]) else .bad)= .ok xs ωf:=qP
        by_cases hl6:acc.length<1000000
        ·rw[if_pos hl6] at qP
         have e36:=e35.trans e6
         have hy6:H6 Dd=some (.lst ys):=kD s2 e36 hy
         have vy6:=VsOk.evo e36 vy
         have em:Ev (ow (ck B Dd) α6 ω6) H6 (ow (ck B Dd) α6 ω6) (bL H6 Dd (.lst (ys++[v6]))):=Ev.mut (.inl (.inr rfl)) _
         have sl6:=sl5.evo e6
         refine⟨ys,hy6,qE (by rw[vy6.length];exact hl6),hlt,α6,ω6,ρ4,acc++[x6],ys++[v6],(e2.trans e36).dd hD,s6.hmut hy6,⟨sl6.1,fun j x hx=>let⟨v,h1,h2⟩:=sl6.2 j x hx;⟨v,h1,h2.ev em fun _ _ h=>h⟩⟩,aO,rl (Paired.mapP vy6 fun _ _ r=>r.ev em fun _ _ h=>h) (hv6.ev em fun _ _ h=>h),qP⟩
        ·rw[if_neg hl6] at qP;cases qP
   ·have e:i=ds.length:=by omega
    subst e
    rw[List.drop_eq_nil_of_le (Nat.le_refl _)] at qP
    have qP:RS.ok acc ω2= .ok xs ωf:=qP
    cases qP
    refine .inl ⟨stop,?_⟩
    refine w1 (α2++[Dd]) H2 ⟨fun i a h=>fN (e2.pre i a h),e2.kp,fun b z=>(oZ s2.len z).elim (e2.lv b) fun z=> .inr (by rw[z];exact hD)⟩ (s2.adopt hy vy hB) (.ref Dd) ⟨Dd,by rw[←s2.len];exact bK,rfl⟩
noncomputable def fw (N:Nat) (g:fu):gX:=fun xs ω=>(g (xs.map some++List.replicate (N - xs.length) none) ω).bind fun fl ω1=>match fl with
 | .rt x=> .ok x ω1
 | .nx _=> .ok (.fz .none) ω1
 |_=> .bad
theorem zD {N:List Str} {vs:List V} {xs:List SV} (h:VsOk O K H α vs xs):SlOk O K H α (L2.start N vs) (xs.map some++List.replicate (N.length - xs.length) none):=by
 have hl:vs.length=xs.length:=Paired.length h
 unfold L2.start
 refine⟨by rw[List.length_append,List.length_append,List.length_map,List.length_map,List.length_replicate,List.length_replicate,hl],fun i x hx=> ?_⟩
 by_cases hi:i<xs.length
 ·rw[List.getElem?_append_left (by rw[List.length_map];exact hi),List.getElem?_map] at hx
  cases q:xs[i]? with
  |none=>rw[q] at hx;cases hx
  |some d=>
   rw[q] at hx
   cases hx
   obtain⟨v,hv,h2⟩:=vF h q
   refine⟨v,?_,h2⟩
   rw[List.getElem?_append_left (by rw[List.length_map,hl];exact hi),List.getElem?_map,hv]
   rfl
 ·rw[List.getElem?_append_right (by rw[List.length_map];omega),List.getElem?_replicate] at hx
  split at hx<;>cases hx
theorem EW {N:List Str} {vs:List V} {xs:List SV} {g:fu} {t:TS} {Q:VK} {n:Nat} (hs:u8 K E t g) (h:eI K n (fw N.length g) vs H Q E):t {nx:=fun _ H'=>Q .non H',rt:=Q} (L2.start N vs) H:=by
 obtain⟨hl,B,α,ω,xs,s,hv,w⟩:=h
 refine hs B _ H α ω _ _ s (zD hv) (WS.imp (WS.bind w) fun fl α1 ω1 H1 e1 s1 w1=> ?_)
 cases fl with
 |rt x=>exact WS.now (E:=E) s1 w1
 |nx ρ=>exact fun σ sl=>WS.now (E:=E) s1 w1 .non .non
 |bk ρ=>exact w1.elim
 |ct ρ=>exact w1.elim
end
theorem rg {P:Program} {w:World} {K:PySem.W.Frag} {mg:Str→Option Value} {base:Heap} {x qual:Str} {st:Stmt} {f:Addr} {fd:FuncData} {N ps:List Str} {k n m:Nat} {g:fu} {FF:gX} (F:Fun K x qual st f fd) (S:FnScope N ps (ag st)) (hn:ps.length=n) (hm:N.length=m) (hF:FF=fw m g)
  (hbody:∀(cdv:Value) (A:Around) (outer:List Env) (s:Shared) (H:Hp) (E:XK),Room k (A.deeper (PyProof.Rows.envOfC qual (ag st) s.heap.objs.size f cdv))→
   ∃t,PSs (se dR P w K mg base N qual (ag st) f cdv A outer s H E).nox (a9 st) t∧u8 K E t g):FnOk P w K mg base dR (k+1) f fd ps (eI K n FF):=by
 subst hF hm
 refine F.ok S (fun vs H Q E h=>h.1.trans hn.symm) (fun cdv A outer s H vs Q E hr h=> ?_)
 obtain⟨t,ht,hs⟩:=hbody cdv A outer s H E hr
 exact⟨t,ht,EW (xs:=[]) hs h⟩
noncomputable abbrev pT (P:Program) (w:World) (K:PySem.W.Frag) (mg:Str→Option Value) (base:Heap) (k:Nat) (x:Str) (ps:List Str) (n:Nat) (F:gX):Prop:=Bw P w K mg base k x ps (eI K n F)
end L10
namespace PySem.W
open PySem PySem.Calls PyProof.Rows PyProof.V PySem.Spec
section
variable {prog:Program} {w:World} {A:Around} {E:Value→Shared→Prop} {s:Shared} {T:String} {r d:Addr} {n:Nat} {P:Nat→Value→Prop} {OK:Heap→Prop}
theorem collect_kdl {Q:List Value→Shared→Prop} (K:KdlSrc prog w T r d n P OK) (hh:A.handled=none) (hok:OK s.heap) (hn:n≤sizeLine)
  (hQ:∀h' tk acc,(∀b o,s.heap.get? b=some o→h'.get? b=some o)→ItemsOf P acc n→Q acc.toList {s with heap:=h',toks:=tk}):wpAny (model prog w) A (collect (.ref r)) Q E s:=by
 have hlt:=K.there _ hok
 unfold collect
 refine wpAny_bind (wpAny_runValue (codeAny_builtin F.entry_proto_collect ?_))
 rw[Around.under_plainId F.plain_proto_collect _]
 show wpAny _ A.in1 (newList []>>=fun l=>again (.builtin "list.__iadd__" ⟨[l,.ref r],[]⟩)) _ _ s
 refine wpAny_bind (wpAny_newObj_type ?_)
 refine wpAny_pure ⟨plainId_quiet F.plain_list_iadd _,codeAny_builtin F.entry_list_iadd ?_⟩
 rw[Around.under_plainId F.plain_list_iadd _]
 have hS:(s.heap.push {cls:= .type "list",data:= .seq ([]:List Value).toArray}).get? s.heap.objs.size=some {cls:= .type "list",data:= .seq ([]:List Value).toArray}:=Heap.get?_push_size _ rfl
 show wpAny _ A.in1 (Builtin.List.listExtendWith (.ref s.heap.objs.size) (.ref r) (.ref s.heap.objs.size)) _ _ _
 refine kdl_extend (R:=wants (fun v s'=>wpAny (model prog w) A (match v with| .ref a=>(load a>>=fun o=>match o.data with| .seq xs _=>pure xs.toList|_=>unsupported "internal:collect")|_=>unsupported "internal:collect") Q E s') E) (s:={s with heap:=s.heap.push {cls:= .type "list",data:= .seq ([]:List Value).toArray}}) K hh (K.keep _ _ hok fun b _ o e=>Heap.get?_push_of_some _ e) _ (Nat.ne_of_gt hlt.1) (Nat.ne_of_gt hlt.2) _ 0 hS (fun h' tk acc' c' hk hS' hacc=> ?_) hn
 show wpAny _ A (load s.heap.objs.size>>=_) _ _ _
 refine wpAny_bind (wpAny_load hS' ?_)
 exact wpAny_pure (hQ h' tk acc' (fun b o e=>hk b o (Nat.ne_of_lt (Heap.lt_size e)) (Heap.get?_push_of_some _ e)) hacc)
end
end PySem.W
namespace PyProof.Rows
open PySem
section
variable {prog:Program} {w:World} {A:Around} {E:Value→Shared→Prop} {s:Shared} {T:String} {r d:Addr} {n:Nat} {P:Nat→Value→Prop} {OK:Heap→Prop}
theorem wo {ns:List Int} {Q:Value→Shared→Prop} (K:PySem.W.KdlSrc prog w T r d n P OK) (hh:A.handled=none) (hok:OK s.heap) (h64:n<64) (hI:∀acc:Array Value,PySem.ItemsOf P acc n→IntsAre acc.toList ns)
  (h:∀(h1 h':Heap) (tk:Nat) (out:Array Value) (e:Nat) (ms:List Int),(∀b o,s.heap.get? b=some o→h1.get? b=some o)→h'.get? h1.objs.size=some (seqObj "list" out e)→(∀b o,h1.get? b=some o→h'.get? b=some o)→IntsAre out.toList ms→ms.Perm ns→ms.Pairwise (·≤·)→Q (.ref h1.objs.size) {s with heap:=h',toks:=tk}):
  wpAny (model prog w) A (call (.builtin "sorted") [.ref r]) Q E s:=by
 refine Calls.call_function_entry kind_sorted plain_sorted entry_sorted (args_sorted1 _) (wpAny_bind (m:=checkCount "sorted" 1 1 _) (wpAny_pure (wpAny_bind (PySem.W.collect_kdl K hh hok (by rw[sizeLine_eq];omega) (fun h1 tk acc hk hi=>wpAny_bind (wpAny_newList ?_ (hsz:=by rw[Array.length_toList,hi.1,sizeLine_eq];omega)))))))
 have hL:(h1.push (seqObj "list" acc.toList.toArray 0)).get? h1.objs.size=some (seqObj "list" acc.toList.toArray 0):=Heap.get?_push_size _ rfl
 have hIa:=hI acc hi
 refine wpAny_bind (wpAny_holding (wpAny_call_entry slot_list_sort ⟨_,hL,rfl⟩ entry_list_sort (list_sort_tree hL hIa (by rw[Array.length_toList,hi.1];exact h64) fun out ms a1 a2 a3=>⟨_,rfl,wpAny_pure ⟨_,rfl,?_⟩⟩) (args_list_sort _)))
 obtain⟨e,he⟩:=pf (out:=out) hL
 exact h h1 _ tk out e ms hk he (fun b o' z=>mz (Nat.ne_of_lt (Heap.lt_size z)) (Heap.get?_push_of_some _ z)) a1 a2 a3
end
end PyProof.Rows
namespace L10
open PySem PySem.Spec PyProof.Rows L2 L3
noncomputable def xL (p d:Addr):HO:= .ext fun h=>h.IsValuesView p d
theorem Ha {P:Program} {w:World} {H:Hp} {h:Heap} {p d:Addr} (x:h.IsValuesView p d):ObjOk P w H h p (xL p d):=⟨x,let⟨o,ho,_⟩:=x;⟨o,ho⟩,fun h1 h2 ⟨o,ho,hc⟩ k=>⟨o,k o ho,hc⟩⟩
def BK:V→List V→Hp→VK→Prop:=fun x vs H Q=>∃a kvs,x= .ref a∧vs=[]∧H a=some (.dK kvs)∧∀p,H p=none→Q (.ref p) (bL H p (xL p a))
theorem jy {X:Cx}:HM X "dict.values" BK:=by
 intro pins s σ H x xs v us Q I rx rxs h
 obtain⟨a,kvs,rfl,rfl,e,q⟩:=h
 cases rx
 cases rxs
 obtain⟨z,hd,vs,rel,dd⟩:=ut I.hok e
 refine call_meetsIn PySem.F.slot_dict_values dd.typeIs PySem.F.entry_dict_values (PySem.F.args_dict_values_1 _) (meets_dict_values (ce X.prog X.w) a hd) ⟨⟨vs,dd⟩,?_⟩
 refine⟨.ref s.heap.objs.size,_,I.laid (t':=s.toks) (o:=xL s.heap.objs.size a) (fun b o e=>Heap.get?_push_of_some _ e) (Nat.le_refl _) (Ha ⟨_,Heap.get?_push_size _ rfl,rfl,rfl⟩),rfl,q _ (I.hok.fresh (Nat.le_refl _))⟩
def z6:List V→Hp→VK→Prop:=fun xs H Q=>∃p a kvs,xs=[.ref p]∧H p=some (xL p a)∧H a=some (.dK kvs)∧∀l,H l=none→Q (.ref l) (bL H l (.lst (kvs.map (·.2))))
theorem xy {κ:Type}:∀{kvs:List (κ×V)} {vs:List (κ×Value)},KV kvs vs→Vals (kvs.map (·.2)) (vs.map (·.2))
 |_,_,.nil=> .nil
 |_,_,.cons h t=> .cons h.2 (xy t)
theorem j9 {X:Cx} (hc:X.calm=true):CallR X (.type "list") z6:=by
 intro pins s σ H xs us Q I r h
 obtain⟨p,a,kvs,rfl,ep,e,q⟩:=h
 obtain⟨u,rfl,ru⟩:=iR r
 cases ru
 obtain⟨z,hd,vs,rel,dd⟩:=ut I.hok e
 obtain⟨en,da⟩:=dd.dictAt
 obtain⟨vw,_,_⟩:ObjOk X.prog X.w H s.heap p (xL p a):=I.hok p _ ep
 refine PySem.W.kdl_call (PySem.W.kdl_values (knd:=ce X.prog X.w)) (I.ok.hd hc) ⟨vw,da⟩ (by rw[←rel.length];exact z) fun h' tk acc c hk hL hi=> ?_
 have ea:acc.toList=vs.map (·.2):=PySem.W.kdl_vals_eq acc.toList (by rw[Array.length_toList];exact hi.1) fun j v ej=>hi.2 j v (by rw[←Array.getElem?_toList];exact ej)
 refine⟨.ref s.heap.objs.size,_,I.laid (t':=tk) (o:= .lst (kvs.map (·.2))) hk (Nat.le_refl _) ⟨by rw[List.length_map];exact z,acc.toList,c,by rw[ea];exact xy rel,by rw[Array.toArray_toList];exact hL⟩,rfl,q _ (I.hok.fresh (Nat.le_refl _))⟩
def zX:List V→Hp→VK→Prop:=fun xs H Q=>∃(p:Addr) (kvs:List (bJ×V)) (ns:List Int),xs=[.ref p]∧H p=some (.dK kvs)∧kvs.map (·.1)=ns.map Sum.inl∧ns.length<64∧∀(l:Addr) (ms:List Int),H l=none→ms.Perm ns→ms.Pairwise (·≤·)→Q (.ref l) (bL H l (.lst (ms.map V.int)))
theorem nY {prog:Program} {w:World}:∀{vs:List (bJ×Value)} {ns:List Int} {us:List Value},vs.map (·.1)=ns.map Sum.inl→us.length=vs.length→(∀(j:Nat) (u:Value),us[j]? =some u→∃k x,vs[j]? =some (k,x)∧(ce prog w).is k u=true)→IntsAre us ns
 |[],[],[],_,_,_=> .nil
 |[],[],_::_,_,h,_=>by simp at h
 |[],_::_,_,h,_,_=>by simp at h
 |_::_,[],_,h,_,_=>by simp at h
 |_::_,_::_,[],_,h,_=>by simp at h
 |(k,y)::vs,n::ns,u::us,h1,h2,h3=>by
  rw[List.map_cons,List.map_cons,List.cons.injEq] at h1
  obtain⟨k',x,e,hk⟩:=h3 0 u rfl
  cases e
  have ek:k=Sum.inl n:=h1.1
  subst ek
  obtain⟨t,rfl⟩:=Value.isInt_shape (show Value.isInt n u=true from hk)
  exact .cons _ _ (nY h1.2 (by simpa using h2) fun j u' e=>h3 (j+1) u' (by simpa using e))
theorem pw {X:Cx} (hc:X.calm=true):CallR X (.builtin "sorted") zX:=by
 intro pins s σ H xs us Q I r h
 obtain⟨p,kvs,ns,rfl,e,en,h64,q⟩:=h
 obtain⟨u,rfl,ru⟩:=iR r
 cases ru
 obtain⟨z,hd,vs,rel,dd⟩:=ut I.hok e
 obtain⟨ep,da⟩:=dd.dictAt
 have hv:vs.map (·.1)=ns.map Sum.inl:=by rw[←rel.keys];exact en
 have hl:vs.length=ns.length:=by have:=congrArg List.length hv;simpa using this
 refine wo (ns:=ns) (PySem.W.kdl_dict (knd:=ce X.prog X.w) hd) (I.ok.hd hc) da (by omega) (fun acc hi=>nY hv (by rw[Array.length_toList];exact hi.1) fun j v ej=>hi.2 j v (by rw[←Array.getElem?_toList];exact ej)) fun h1 h' tk out e2 ms hk he hk2 hi hp hs=> ?_
 have hlen:ms.length=ns.length:=hp.length_eq
 have I1:Inv X pins σ H {s with heap:=h1}:=I.kept (t':=s.toks) hk
 refine⟨.ref h1.objs.size,_,I1.laid (t':=tk) (o:= .lst (ms.map V.int)) hk2 (Nat.le_refl _) ?_,rfl,q _ ms (I1.hok.fresh (Nat.le_refl _)) hp hs⟩
 refine⟨?_,out.toList,e2,h8 hi,he⟩
 rw[List.length_map,hlen]
 have:(64:Nat)≤sizeLine:=by decide
 omega
end L10
namespace PySem
open Sem (wp)
namespace F
theorem lk_tuple_keys:typeLookup (.type "tuple") "keys"=pure none:=by rw[typeLookup_type,builtinLookup_eq_fast];kernel_rfl
theorem lk_tuple_hook:typeLookup (.type "tuple") "__getattr__"=pure none:=by rw[typeLookup_type,builtinLookup_eq_fast];kernel_rfl
theorem sub_ae:isSubtype (.type "AttributeError") (.type "AttributeError")=pure true:=by rw[isSubtype_type];kernel_rfl
end F
section
variable {prog:Program} {w:World} {A:Around} {E:Value→Shared→Prop} {h:Heap} {g:Array GenState} {d:Drawn} {t:Nat} {os:OsState} {a:Addr} {o:Obj}
theorem vn {α:Type} {name msg:Str} {Q:α→Shared→Prop} {E:Value→Shared→Prop} (hm:msg.length≤sizeLine) (hh:A.handled=none) (hq:∀e h' t',(∀b o,h.get? b=some o→h'.get? b=some o)→(⟨h',g,d,t',os⟩:Shared).TypeIs e "AttributeError"→E e ⟨h',g,d,t',os⟩):
  wpAny (model prog w) A (raiseAttrError (.ref a) name msg:Sem α) Q E ⟨h,g,d,t,os⟩:=by
 have hm':¬msg.length>sizeLine:=Nat.not_lt.mpr hm
 unfold raiseAttrError newExc newTuple
 repeat (any_goals (first|assumption|wp_step))
 refine wpAny_of_eq (a:=true) F.sub_ae ?_
 repeat (any_goals (first|assumption|wp_step))
 refine wpAny_raiseNew_none hh (hq _ _ _ (fun b o e=> ?_) ?_)
 ·exact(Heap.get?_update_other _ _ (Ne.symm (Nat.ne_of_lt (Heap.lt_size (Heap.get?_push_of_some _ e))))).trans (Heap.get?_push_of_some _ (Heap.get?_push_of_some _ e))
 ·exact⟨_,Heap.get?_update_self _ (Heap.get?_push_size _ rfl) rfl,rfl⟩
theorem lA {tk:Tok} {Q:Fin→Shared→Prop} {E:Value→Shared→Prop} {its:Array Value} {n:Nat} {sl:Array (Option Value)} (hx:h.get? a=some ⟨.type "tuple",none,.seq its n,sl⟩) (hh:A.handled=none) (hq:∀e h' t',(∀b o,h.get? b=some o→h'.get? b=some o)→(⟨h',g,d,t',os⟩:Shared).TypeIs e "AttributeError"→E e ⟨h',g,d,t',os⟩):
  wpAny (model prog w) A (Builtin.«object.__getattribute__» ⟨[.ref a,.str "keys" tk],[]⟩) Q E ⟨h,g,d,t,os⟩:=by
 have hT:(⟨h,g,d,t,os⟩:Shared).TypeIs (.ref a) "tuple":=⟨_,hx,rfl⟩
 have f4:=F.lk_tuple_keys
 repeat (any_goals (first|assumption|wp_step))
 exact vn (by decide+kernel) hh hq
theorem pN {tk:Tok} {Q:Value→Shared→Prop} {E:Value→Shared→Prop} {its:Array Value} {n:Nat} {sl:Array (Option Value)} (hx:h.get? a=some ⟨.type "tuple",none,.seq its n,sl⟩) (hh:A.handled=none) (hq:∀e h' t',(∀b o,h.get? b=some o→h'.get? b=some o)→(⟨h',g,d,t',os⟩:Shared).TypeIs e "AttributeError"→E e ⟨h',g,d,t',os⟩):
  wpAny (model prog w) A (getAttrBy (.ref a) (.str "keys" tk) false) Q E ⟨h,g,d,t,os⟩:=by
 have hT:(⟨h,g,d,t,os⟩:Shared).TypeIs (.ref a) "tuple":=⟨_,hx,rfl⟩
 have f2:=F.slot_tuple_getattribute.lookup
 have f3:=F.slot_tuple_getattribute.bind (.ref a)
 have f4:=F.lk_tuple_hook
 repeat (any_goals (first|assumption|wp_step))
 refine codeAny_call_builtin F.slot_tuple_getattribute.plain F.entry_tuple_ga (F.slot_tuple_getattribute.check _ _ _ _ _ _ _ _ hT (F.args_tuple_getattribute_2 _ _) (lA hx hh fun e h' t' hk he=> ?_))
 have fs:=F.sub_ae
 show wpAny (model prog w) A (getattributeRaised (Value.ref a) (Value.str (Str.ofString "keys") tk) (Value.type "tuple") e none false false) Q E _
 unfold getattributeRaised
 refine wpAny_bind (wpAny_isInstance he fs ?_)
 repeat (any_goals (first|assumption|wp_step))
 exact hq e h' t' hk he
theorem mS {Q:Option Value→Shared→Prop} {its:Array Value} {n:Nat} {sl:Array (Option Value)} (hx:h.get? a=some ⟨.type "tuple",none,.seq its n,sl⟩) (hh:A.handled=none) (hq:∀h' t',(∀b o,h.get? b=some o→h'.get? b=some o)→Q none ⟨h',g,d,t',os⟩):
  wpAny (model prog w) A (getAttr? (.ref a) "keys") Q E ⟨h,g,d,t,os⟩:=by
 unfold getAttr? getAttrBy?
 have fs:=F.sub_ae
 refine wpAny_bind ?_
 repeat (any_goals (first|assumption|(with_reducible refine pN hx hh fun e h' t' hk he=> ?_)|wp_step))
 exact hq h' t' hk
namespace F
theorem entry_upd_loop:entryFor table "dict.update.loop"=some Builtin.«dict.update.loop»:=entryFor_of_tree (by kernel_rfl)
theorem plain_upd_loop:plainId "dict.update.loop"=true:=by decide+kernel
end F
end
end PySem
namespace PySem
open Sem (wp)
section
variable {prog:Program} {w:World} {A:Around} {E:Value→Shared→Prop} {s:Shared} {K:Type} [DecidableEq K] {knd:KeyKind prog w K} {I dd ax:Addr} {items:Array Value} {ks:List (K×Value)} {R:Result→Shared→Prop}
theorem we (kvs:List (K×Value)) (k:K) (v:Value):(stored kvs k v).length≤kvs.length+1:=by
 unfold stored
 split
 ·rw[List.length_map];omega
 ·rw[List.length_append];exact Nat.le_refl _
theorem ma:∀(more kvs:List (K×Value)),(merged kvs more).length≤kvs.length+more.length
 |[],kvs=>Nat.le_refl _
 |p::r,kvs=>by
  have h1:=ma r (stored kvs p.1 p.2)
  have h2:=we kvs p.1 p.2
  show(merged (stored kvs p.1 p.2) r).length≤_
  rw[List.length_cons]
  omega
theorem ww (more:List (K×Value)):(merged [] more).length≤more.length:=by have:=ma more [];simpa using this
theorem BI {h0:Heap} (hh:A.handled=none) (hne:ax≠I) (hI:I≠dd) (hax:ax≠dd) (hp:∀(i:Nat) (v:Value),items[i]? =some v→∃q key k x,v= .ref q∧q≠dd∧q≠I∧ks[i]? =some (k,x)∧knd.is k key=true∧h0.IsTuple q #[key,x]) (hs:ks.length=items.size) (hz:items.size≤sizeLine)
  (hR:∀h' tk,h'.DictOf knd dd (merged [] ks)→(∀b o,b≠dd→b≠I→h0.get? b=some o→h'.get? b=some o)→R (.ok (.ret .none)) {s with heap:=h',toks:=tk}):
  ∀(m i:Nat) (h:Heap) (tk:Nat),items.size - i=m→i≤items.size→h.IsTupleIter I ax i→h.IsTuple ax items→h.DictOf knd dd (merged [] (ks.take i))→(∀b o,b≠dd→b≠I→h0.get? b=some o→h.get? b=some o)→
   codeAny (model prog w) A (.builtin "dict.update.loop" ⟨[.ref dd,.ref I,rawInt i,.none],[]⟩) R {s with heap:=h,toks:=tk}:=by
 have W:=Walks.tuple (prog:=prog) (w:=w) (A:=A.in1) hh I ax hne items
 intro m
 induction m with
 |zero=>
  intro i h tk hm hi it tu dt kp
  have e:i=items.size:=by omega
  subst e
  refine codeAny_builtin F.entry_upd_loop ?_
  rw[Around.under_plainId F.plain_upd_loop _]
  show wpAny _ A.in1 (pyNext (.ref I)>>=_) _ _ _
  refine wpAny_bind (W.done _ _ _ ⟨it,tu⟩ fun h' tk' hk=> ?_)
  rw[List.take_of_length_le (by omega)] at dt
  show wpAny _ A.in1 (Builtin.Dict.addKeywords dd []>>=fun _=>ret .none) _ _ _
  refine wpAny_bind (wpAny_pure (wpAny_pure ?_))
  refine hR h' tk' (dt.at fun o e=>hk dd o (by simp;exact fun z=>hI z.symm) e) fun b o h1 h2 e=>hk b o (by simp;exact h2) (kp b o h1 h2 e)
 |succ m ih=>
  intro i h tk hm hi it tu dt kp
  have hlt:i<items.size:=by omega
  refine codeAny_builtin F.entry_upd_loop ?_
  rw[Around.under_plainId F.plain_upd_loop _]
  show wpAny _ A.in1 (pyNext (.ref I)>>=_) _ _ _
  refine wpAny_bind (W.item i _ _ _ hlt ⟨it,tu⟩ fun v h' tk' hv st hk=> ?_)
  obtain⟨q,key,k,x,rfl,hq1,hq2,hk1,hk2,ht⟩:=hp i v hv
  have ht':h'.IsTuple q #[key,x]:=ht.at fun o e=>hk q o (by simp;exact hq2) (kp q o hq1 hq2 e)
  have dt':h'.DictOf knd dd (merged [] (ks.take i)):=dt.at fun o e=>hk dd o (by simp;exact fun z=>hI z.symm) e
  have kp':∀b o,b≠dd→b≠I→h0.get? b=some o→h'.get? b=some o:=fun b o h1 h2 e=>hk b o (by simp;exact h2) (kp b o h1 h2 e)
  obtain⟨oq,hoq,hcq,nq,hdq⟩:=ht'
  obtain⟨cq,dq,dtq,slq⟩:=oq
  cases hcq
  cases hdq
  have hT:({s with heap:=h',toks:=tk'}:Shared).TypeIs (.ref q) "tuple":=⟨_,hoq,rfl⟩
  refine wpAny_bind (wpAny_holding (wpAny_bind ?_))
  refine wpAny_tryCatch ?_
  unfold Builtin.Dict.pairItems
  refine wpAny_bind (wpAny_typeOf hT ?_)
  rw[if_pos (by decide)]
  refine wpAny_bind ?_
  unfold seqItems?
  refine wpAny_bind (wpAny_load hoq (wpAny_pure (wpAny_pure ?_)))
  show wpAny _ A.in1 (holding [key,x] (dictSet dd key x)) _ _ _
  refine wpAny_holding (wpAny_dictSet_pairs hk2 dt' (fun h2 d2 s2=> ?_) ?_)
  ·refine wpAny_pure ⟨plainId_quiet F.plain_upd_loop _,?_⟩
   have e2:∀b o,b≠dd→h'.get? b=some o→h2.get? b=some o:=fun b o hb e=>(s2.2 b hb).trans e
   refine ih (i+1) h2 (tk'+1) (by omega) hlt (st.1.at fun o e=>e2 I o hI e) (st.2.at fun o e=>e2 ax o hax e) ?_ fun b o h1 h2 e=>e2 b o h1 (kp' b o h1 h2 e)
   rw[merged_take_succ [] ks i (k,x) hk1]
   exact d2
  ·have:(merged [] (ks.take i)).length≤(ks.take i).length:=ww _
   rw[List.length_take] at this
   omega
end
end PySem
namespace PySem
open Sem (wp)
open PyProof.Rows
section
variable {prog:Program} {w:World} {A:Around} {E:Value→Shared→Prop} {s:Shared} {K:Type} [DecidableEq K] {knd:KeyKind prog w K} {ax:Addr} {items:Array Value} {ks:List (K×Value)} {R:Result→Shared→Prop}
theorem mJ {Q:Value→Shared→Prop} {n:Nat} {sl:Array (Option Value)} (hh:A.handled=none) (hx:s.heap.get? ax=some ⟨.type "tuple",none,.seq items n,sl⟩) (hs:ks.length=items.size) (hz:items.size≤sizeLine)
  (hp:∀(i:Nat) (v:Value),items[i]? =some v→∃q key k x,v= .ref q∧ks[i]? =some (k,x)∧knd.is k key=true∧s.heap.IsTuple q #[key,x])
  (h:∀h' tk,h'.DictOf knd s.heap.objs.size (merged [] ks)→(∀b o,s.heap.get? b=some o→h'.get? b=some o)→Q (.ref s.heap.objs.size) {s with heap:=h',toks:=tk}):
  wpAny (model prog w) A (call (.type "dict") [.ref ax]) Q E s:=by
 refine callType_codes (Q₁:=fun obj s₁=>obj= .ref s.heap.objs.size∧s₁={s with heap:=s.heap.push {cls:= .type "dict",data:= .dict #[]}}) F.kt_called_dict (F.kt_typeCall_dict_1 _) F.entry_dict_init (kt_code_dict_new _ ⟨rfl,rfl⟩) ?_
 rintro obj s₁ ⟨rfl,rfl⟩
 have hnew:(s.heap.push {cls:= .type "dict",data:= .dict #[]}).DictOf knd s.heap.objs.size []:=Heap.DictOf.new s.heap
 have hx':(s.heap.push {cls:= .type "dict",data:= .dict #[]}).get? ax=some ⟨.type "tuple",none,.seq items n,sl⟩:=Heap.get?_push_of_some _ hx
 have hT:({s with heap:=s.heap.push {cls:= .type "dict",data:= .dict #[]}}:Shared).TypeIs (.ref ax) "tuple":=⟨_,hx',rfl⟩
 refine⟨hnew.typeIs,F.args_dict_init_2 _ _,?_⟩
 unfold Builtin.«dict.__init__»
 refine wpAny_bind ?_
 unfold Builtin.Dict.selfAndRest
 refine wpAny_bind (wpAny_notOrdered_dict hnew.typeIs ?_)
 show wpAny _ _ (pure (s.heap.objs.size,[Value.ref ax])) _ _ _
 refine wpAny_pure ?_
 show wpAny _ _ (Builtin.Dict.updateFrom "dict.__init__" s.heap.objs.size (.ref ax) [] .none) _ _ _
 unfold Builtin.Dict.updateFrom
 refine wpAny_bind (wpAny_typeOf hT ?_)
 rw[if_pos (by decide)]
 refine wpAny_bind (mS hx' hh fun h' t' hk=> ?_)
 rw[if_pos (show(Option.none:Option Value).isNone=true from rfl)]
 refine wpAny_bind (wpAny_rule ?_)
 have hx2:=hk _ _ hx'
 have ht2:h'.IsTuple ax items:=⟨_,hx2,rfl,n,rfl⟩
 refine wpAny_bind (wpAny_pyIter_tuple (s:={s with heap:=h',toks:=t'}) ht2 ?_)
 refine wpAny_pure ⟨plainId_quiet F.plain_upd_loop _,?_⟩
 have ltd:s.heap.objs.size<h'.objs.size:=by
  obtain⟨o,_,_,ho,_⟩:=hnew
  exact Heap.lt_size (hk _ _ ho)
 have lta:ax<s.heap.objs.size:=Heap.lt_size hx
 refine BI (A:=A.in1) (prog:=prog) (w:=w) (knd:=knd) (ks:=ks) (items:=items) (ax:=ax) (R:=wants (fun r s₂=>r=Value.none∧Q (Value.ref s.heap.objs.size) s₂) E) (h0:=h'.push {cls:= .type "tuple_iterator",data:= .fields #[.ref ax,.int 0 0]}) (s:={s with heap:=h',toks:=t'}) hh (Nat.ne_of_lt (Nat.lt_trans lta ltd)) (Nat.ne_of_gt ltd) (Nat.ne_of_lt lta) (fun i v e=> ?_) hs hz (fun h2 tk2 d2 k2=> ?_) items.size 0 _ t' (by omega) (Nat.zero_le _) ⟨_,Heap.get?_push_size _ rfl,rfl,rfl⟩ ⟨_,Heap.get?_push_of_some _ hx2,rfl,n,rfl⟩ ?_ fun b o _ _ e=>e
 ·obtain⟨q,key,k,x,rfl,h1,h2,o,ho,h3⟩:=hp i v e
  have lq:=Heap.lt_size ho
  exact⟨q,key,k,x,rfl,Nat.ne_of_lt lq,Nat.ne_of_lt (Nat.lt_trans lq ltd),h1,h2,o,Heap.get?_push_of_some _ (hk _ _ (Heap.get?_push_of_some _ ho)),h3⟩
 ·refine⟨rfl,h h2 tk2 d2 fun b o e=> ?_⟩
  have lb:=Heap.lt_size e
  exact k2 b o (Nat.ne_of_lt lb) (Nat.ne_of_lt (Nat.lt_trans lb ltd)) (Heap.get?_push_of_some _ (hk _ _ (Heap.get?_push_of_some _ e)))
 ·have:=hnew.at (h':=h'.push {cls:= .type "tuple_iterator",data:= .fields #[.ref ax,.int 0 0]}) fun o e=>Heap.get?_push_of_some _ (hk _ _ e)
  exact this
end
end PySem
namespace L10
open PySem PySem.Spec PyProof.Rows L2 L3
inductive PrsOk (K:PySem.W.Frag) (H:Hp):List V→List (bJ×V)→Prop
 |nil:PrsOk K H [] []
 |cons {q:Addr} {k:bJ} {v:V} {vs:List V} {kvs:List (bJ×V)}:SqT K H q [kV k,v]→PrsOk K H vs kvs→PrsOk K H (.ref q::vs) ((k,v)::kvs)
def A9 (K:PySem.W.Frag):List V→Hp→VK→Prop:=fun xs H Q=>∃p ys kvs,xs=[.ref p]∧SqT K H p ys∧PrsOk K H ys kvs∧∀d,H d=none→Q (.ref d) (bL H d (.dK (kc [] kvs)))
theorem zG {X:Cx} {pins:List (Addr×Obj)} {σ:L2.St} {H:Hp} {s:Shared} (I:Inv X pins σ H s):∀{ys:List V} {kvs:List (bJ×V)} {us:List Value},PrsOk X.K H ys kvs→Vals ys us→∃ks:List (bJ×Value),KV kvs ks∧ks.length=us.length∧∀(i:Nat) (v:Value),us[i]? =some v→∃q key k x,v= .ref q∧ks[i]? =some (k,x)∧(ce X.prog X.w).is k key=true∧s.heap.IsTuple q #[key,x]
 |_,_,_,.nil,.nil=>⟨[],.nil,rfl,fun i v e=>by simp at e⟩
 |_,_,_,.cons (q:=q) (k:=k) (v:=v) h t,.cons r rs=>by
  obtain⟨ks,h1,h2,h3⟩:=zG I t rs
  obtain⟨its,rv,pl,_⟩:=I.tuple h
  cases r
  obtain⟨uk,ux,rfl,rk,rx⟩:∃uk ux,its=[uk,ux]∧RelV (kV k) uk∧RelV v ux:=by
   cases rv with
   |cons a b=>cases b with
    |cons b c=>cases c;exact⟨_,_,rfl,a,b⟩
  refine⟨(k,ux)::ks,.cons ⟨rfl,rx⟩ h1,by rw[List.length_cons,List.length_cons,h2],fun i u e=> ?_⟩
  cases i with
  |zero=>
   cases e
   exact⟨q,uk,k,ux,rfl,rfl,oG rk,pl⟩
  |succ i=>exact h3 i u (by simpa using e)
theorem wA {X:Cx} (hc:X.calm=true):CallR X (.type "dict") (A9 X.K):=by
 intro pins s σ H xs us Q I r h
 obtain⟨p,ys,kvs,rfl,hq,hp,q⟩:=h
 obtain⟨u,rfl,ru⟩:=iR r
 cases ru
 obtain⟨its,rv,⟨o,ho,⟨hcl,n,hd⟩,hdn⟩,hz⟩:=I.tupleX hq
 obtain⟨ks,k1,k2,k3⟩:=zG I hp rv
 obtain⟨oc,od,odt,osl⟩:=o
 cases hcl;cases hd;cases hdn
 have hl:=rv.length
 have hkl:=k1.length
 refine mJ (knd:=ce X.prog X.w) (ks:=ks) (I.ok.hd hc) ho (by rw[List.size_toArray];exact k2) (by rw[List.size_toArray,←hl];exact hz) (fun i v e=>k3 i v (by simpa using e)) fun h' tk dd hk=> ?_
 refine⟨.ref s.heap.objs.size,_,I.laid (t':=tk) (o:= .dK (kc [] kvs)) hk (Nat.le_refl _) ?_,rfl,q _ (I.hok.fresh (Nat.le_refl _))⟩
 refine vZ ?_ ?_ (KV.merge k1 .nil) dd
 ·have:=jY kvs []
  rw[List.length_nil] at this
  omega
 ·exact beq_eq_false_iff_ne.mpr (Nat.ne_of_gt I.big)
end L10
namespace L10
open PySem PyProof.Rows L2 L3
theorem Fo:bootBuiltins "dict"=some (.type "dict"):=by decide+kernel
section
variable {B O O':b6} {K:PySem.W.Frag} {E:XK} {H H' H1 H2:Hp} {α α' α1 α2:List Addr} {ω ω' ω1 ω2:bz} {σ:L2.St} {ρ:cg} {v:V}
noncomputable def pL:SV→Option bJ
 | .fz (.int i)=>some (.inl i)
 | .fz (.str x)=>some (.inr x)
 |_=>none
theorem kG {x:SV} {k:bJ} (e:pL x=some k) (h:VOk O K H α v x):v=kV k:=by
 unfold pL at e
 split at e
 ·cases e;cases h;rfl
 ·cases e;cases h;rfl
 ·cases e
noncomputable abbrev pR (O:b6) (K:PySem.W.Frag) (H:Hp) (α:List Addr):List (bJ×V)→List (bJ×SV)→Prop:=Paired (fun(p:bJ×V) (q:bJ×SV)=>p.1=q.1∧VOk O K H α p.2 q.2)
noncomputable def f8 (ω:bz):SV→Option (Nat×List (bJ×SV))
 | .rf i=>match ω[i]? with
  |some (.dct kvs)=>some (i,kvs)
  |_=>none
 |_=>none
theorem ip {x:SV} {i:Nat} {kvs:List (bJ×SV)} (s:StoOk B K H α ω) (hv:VOk (ow B α ω) K H α v x) (h:f8 ω x=some (i,kvs)):ω[i]? =some (.dct kvs)∧∃a ws,α[i]? =some a∧v= .ref a∧H a=some (.dK ws)∧pR (ow B α ω) K H α ws kvs:=by
 cases x with
 |fz d=>cases h
 |tp l=>cases h
 |rf j=>
  obtain⟨a,ha,rfl⟩:=hv
  unfold f8 at h
  dsimp only at h
  cases q:ω[j]? with
  |none=>rw[q] at h;cases h
  |some c=>
   rw[q] at h
   cases c with
   |dct ys=>
    have e:=Option.some.inj h
    cases e
    obtain⟨ws,h1,h2⟩:=s.cel i a _ ha q
    exact⟨q,a,ws,ha,rfl,h1,h2⟩
   |_=>cases h
noncomputable def gU (kvs:List (bJ×SV)) (k:bJ):Option SV:=(kvs.find? fun kv=>decide (kv.1=k)).map (·.2)
noncomputable def iE (kvs:List (bJ×SV)) (k:bJ) (x:SV):List (bJ×SV):=
 if(kvs.any fun kv=>decide (kv.1=k))=true then kvs.map (fun kv=>if kv.1=k then(kv.1,x) else kv) else kvs++[(k,x)]
noncomputable def kx (kvs:List (bJ×SV)) (k:bJ):List (bJ×SV):=kvs.filter fun kv=>decide (kv.1≠k)
theorem mY {k:bJ}:∀{ws:List (bJ×V)} {kvs:List (bJ×SV)},pR O K H α ws kvs→(∀x,gU kvs k=some x→∃v,im ws k=some v∧VOk O K H α v x)∧(gU kvs k=none→im ws k=none)
 |_,_,.nil=>⟨fun x e=>(by cases e),fun _=>rfl⟩
 |(a,u)::ws,(b,y)::kvs,.cons ⟨h1,h2⟩ t=>by
  cases h1
  unfold gU im
  rw[List.find?_cons,List.find?_cons]
  by_cases e:a=k
  ·simp only[decide_eq_true e]
   exact⟨fun x h=>⟨u,rfl,by cases h;exact h2⟩,fun h=>by cases h⟩
  ·simp only[decide_eq_false e]
   exact mY t
theorem G5 {k:bJ}:∀{ws:List (bJ×V)} {kvs:List (bJ×SV)},pR O K H α ws kvs→(ws.any fun kv=>decide (kv.1=k))=kvs.any fun kv=>decide (kv.1=k)
 |_,_,.nil=>rfl
 |(a,u)::ws,(b,y)::kvs,.cons ⟨h1,h2⟩ t=>by
  cases h1
  rw[List.any_cons,List.any_cons,G5 t]
theorem FP {k:bJ} {x:SV} (hv:VOk O K H α v x):∀{ws:List (bJ×V)} {kvs:List (bJ×SV)},pR O K H α ws kvs→pR O K H α (ws.map (fun kv=>if kv.1=k then(kv.1,v) else kv)) (kvs.map (fun kv=>if kv.1=k then(kv.1,x) else kv))
 |_,_,.nil=> .nil
 |(a,u)::ws,(b,y)::kvs,.cons ⟨h1,h2⟩ t=>by
  cases h1
  rw[List.map_cons,List.map_cons]
  by_cases e:a=k
  ·rw[if_pos e,if_pos e];exact .cons ⟨rfl,hv⟩ (FP hv t)
  ·rw[if_neg e,if_neg e];exact .cons ⟨rfl,h2⟩ (FP hv t)
theorem zm {p:bJ×V} {q:bJ×SV} {ws:List (bJ×V)} {kvs:List (bJ×SV)} (h:pR O K H α ws kvs) (r:p.1=q.1∧VOk O K H α p.2 q.2):pR O K H α (ws++[p]) (kvs++[q]):=by
 induction h with
 |nil=>exact .cons r .nil
 |cons a _ ih=>exact .cons a ih
theorem xc {k:bJ} {x:SV} (hv:VOk O K H α v x) {ws:List (bJ×V)} {kvs:List (bJ×SV)} (h:pR O K H α ws kvs):pR O K H α (hU ws k v) (iE kvs k x):=by
 unfold hU iE
 rw[G5 h]
 split
 ·exact FP hv h
 ·exact zm h ⟨rfl,hv⟩
theorem nK {k:bJ}:∀{ws:List (bJ×V)} {kvs:List (bJ×SV)},pR O K H α ws kvs→pR O K H α (lh ws k) (kx kvs k)
 |_,_,.nil=> .nil
 |(a,u)::ws,(b,y)::kvs,.cons ⟨h1,h2⟩ t=>by
  cases h1
  unfold lh kx
  rw[List.filter_cons,List.filter_cons]
  by_cases e:a=k
  ·have z:decide (a≠k)=false:=decide_eq_false fun n=>n e
   simp only[z]
   exact nK t
  ·have z:decide (a≠k)=true:=decide_eq_true e
   simp only[z]
   exact .cons ⟨rfl,h2⟩ (nK t)
noncomputable def oi (neg:Bool) (fk fd:cB):cB:=fun ρ ω=>(fk ρ ω).bind fun x ω1=>(fd ρ ω1).bind fun o ω2=>(RS.ofO ω2 (pL x)).bind fun k ω2=>(RS.ofO ω2 (f8 ω2 o)).bind fun p ω2=> .ok (.fz (.bool ((gU p.2 k).isSome !=neg))) ω2
theorem u9 {k:bJ} {ws:List (bJ×V)} {kvs:List (bJ×SV)} (h:pR O K H α ws kvs):(im ws k).isSome=(gU kvs k).isSome:=by
 obtain⟨h1,h2⟩:=mY (k:=k) h
 cases q:gU kvs k with
 |none=>rw[h2 q];rfl
 |some x=>obtain⟨u,e,_⟩:=h1 x q;rw[e];rfl
theorem sE {tk td:TE} {fk fd:cB} (hk:eG K E tk fk) (hd:eG K E td fd):eG K E (GG tk td) (oi false fk fd):=by
 intro B σ H α ω ρ Q s sl w
 refine hk B σ H α ω ρ _ s sl (w.bind.imp fun x α1 ω1 H1 e1 s1 w1 v hv=> ?_)
 refine hd B σ H1 α1 ω1 ρ _ s1 (sl.evo e1) (w1.bind.imp fun o α2 ω2 H2 e2 s2 w2 u hu=> ?_)
 obtain⟨k,q1,w2⟩:=WS.ofO w2
 obtain⟨⟨i,kvs⟩,q2,w2⟩:=WS.ofO w2
 obtain⟨_,a,ws,ha,rfl,g1,g2⟩:=ip s2 hu q2
 refine⟨a,im ws k,rfl,by rw[kG q1 hv];exact DGet.k g1,?_⟩
 rw[u9 g2]
 refine WS.now s2 w2 _ ?_
 show L3.DV _ K H2 _ (.bool ((gU kvs k).isSome !=false))
 rw[Bool.bne_false];exact .bl _
theorem Af {tk td:TE} {fk fd:cB} (hk:eG K E tk fk) (hd:eG K E td fd):eG K E (yi tk td) (oi true fk fd):=by
 intro B σ H α ω ρ Q s sl w
 refine hk B σ H α ω ρ _ s sl (w.bind.imp fun x α1 ω1 H1 e1 s1 w1 v hv=> ?_)
 refine hd B σ H1 α1 ω1 ρ _ s1 (sl.evo e1) (w1.bind.imp fun o α2 ω2 H2 e2 s2 w2 u hu=> ?_)
 obtain⟨k,q1,w2⟩:=WS.ofO w2
 obtain⟨⟨i,kvs⟩,q2,w2⟩:=WS.ofO w2
 obtain⟨_,a,ws,ha,rfl,g1,g2⟩:=ip s2 hu q2
 refine⟨a,im ws k,rfl,by rw[kG q1 hv];exact DGet.k g1,?_⟩
 rw[u9 g2]
 refine WS.now s2 w2 _ ?_
 show L3.DV _ K H2 _ (.bool ((gU kvs k).isSome !=true))
 rw[Bool.bne_true];exact .bl _
noncomputable def jX (fd fk:cB):cB:=fun ρ ω=>(fd ρ ω).bind fun o ω1=>(fk ρ ω1).bind fun x ω2=>(RS.ofO ω2 (pL x)).bind fun k ω2=>(RS.ofO ω2 (f8 ω2 o)).bind fun p ω2=>RS.ofO ω2 (gU p.2 k)
theorem uw {td tk:TE} {fd fk:cB} (hd:eG K E td fd) (hk:eG K E tk fk):eG K E (DR td tk) (jX fd fk):=by
 intro B σ H α ω ρ Q s sl w
 refine hd B σ H α ω ρ _ s sl (w.bind.imp fun o α1 ω1 H1 e1 s1 w1 u hu=> ?_)
 refine hk B σ H1 α1 ω1 ρ _ s1 (sl.evo e1) (w1.bind.imp fun x α2 ω2 H2 e2 s2 w2 v hv=> ?_)
 obtain⟨k,q1,w2⟩:=WS.ofO w2
 obtain⟨⟨i,kvs⟩,q2,w2⟩:=WS.ofO w2
 obtain⟨_,a,ws,ha,rfl,g1,g2⟩:=ip s2 (hu.evo e2) q2
 dsimp only at w2
 cases q:gU kvs k with
 |none=>rw[q] at w2;exact w2.elim
 |some y=>
  rw[q] at w2
  obtain⟨z,hz,vz⟩:=(mY g2).1 y q
  exact⟨a,z,rfl,by rw[kG q1 hv,←hz];exact DGet.k g1,WS.now s2 w2 z vz⟩
noncomputable def qR (fd fk fv:cB):fu:=fun ρ ω=>(fv ρ ω).bind fun y ω1=>(fd ρ ω1).bind fun o ω2=>(fk ρ ω2).bind fun x ω3=>(RS.ofO ω3 (pL x)).bind fun k ω3=>(RS.ofO ω3 (f8 ω3 o)).bind fun p ω3=>if p.2.length<1000000 then .ok (.nx ρ) (ω3.set p.1 (.dct (iE p.2 k y))) else .bad
theorem tO {td tk tv:TE} {fd fk fv:cB} (hd:eG K E td fd) (hk:eG K E tk fk) (hv:eG K E tv fv):u8 K E (DZ td tk tv) (qR fd fk fv):=by
 intro B σ H α ω ρ D s sl w
 refine hv B σ H α ω ρ _ s sl (WS.imp (WS.bind w) fun y α1 ω1 H1 e1 s1 w1 vy hvy=> ?_)
 refine hd B σ H1 α1 ω1 ρ _ s1 (sl.evo e1) (WS.imp (WS.bind w1) fun o α2 ω2 H2 e2 s2 w2 u hu=> ?_)
 refine hk B σ H2 α2 ω2 ρ _ s2 (sl.evo (e1.trans e2)) (WS.imp (WS.bind w2) fun x α3 ω3 H3 e3 s3 w3 z hz=> ?_)
 obtain⟨k,q1,w3⟩:=WS.ofO w3
 obtain⟨⟨i,kvs⟩,q2,w3⟩:=WS.ofO w3
 obtain⟨qi,a,ws,ha,rfl,g1,g2⟩:=ip s3 (hu.evo e3) q2
 dsimp only at w3
 by_cases hn:kvs.length<1000000
 ·rw[if_pos hn] at w3
  have ev:Ev (ow B α3 ω3) H3 (ow B α3 ω3) (bL H3 a (.dK (hU ws k vy))):=sT ha qi (by intro z;cases z)
  have e4:Evo α3 ω3 H3 α3 (ω3.set i (.dct (iE kvs k y))) (bL H3 a (.dK (hU ws k vy))):=Evo.put ha qi (by intro z;cases z) (by intro z;cases z)
  have hl:ws.length=kvs.length:=Paired.length g2
  refine⟨a,_,rfl,by rw[kG q1 hz];exact DPut.k g1 (qE (by omega)),?_⟩
  exact w3 α3 _ e4 (s3.put ha qi (by intro z;cases z) (by intro z;cases z) ⟨_,aO,xc ((hvy.evo (e2.trans e3)).ev ev fun _ _ h=>h) (Paired.mapP g2 fun _ _ r=>⟨r.1,r.2.ev ev fun _ _ h=>h⟩)⟩) σ ((sl.evo (e1.trans (e2.trans e3))).evo e4)
 ·rw[if_neg hn] at w3;exact w3.elim
noncomputable def ra (fd fk:cB):cB:=fun ρ ω=>(fd ρ ω).bind fun o ω1=>(RS.ofO ω1 (f8 ω1 o)).bind fun _ ω1=>(fk ρ ω1).bind fun x ω2=>(RS.ofO ω2 (pL x)).bind fun k ω2=>(RS.ofO ω2 (f8 ω2 o)).bind fun p ω2=>(RS.ofO ω2 (gU p.2 k)).bind fun y ω2=> .ok y (ω2.set p.1 (.dct (kx p.2 k)))
theorem uM {td tk:TE} {fd fk:cB} (hd:eG K E td fd) (hk:eG K E tk fk):eG K E (A3 td tk) (ra fd fk):=by
 intro B σ H α ω ρ Q s sl w
 refine hd B σ H α ω ρ _ s sl (w.bind.imp fun o α1 ω1 H1 e1 s1 w1 u hu=> ?_)
 obtain⟨⟨i0,kvs0⟩,q0,w1⟩:=WS.ofO w1
 obtain⟨_,a,ws0,_,rfl,g0,_⟩:=ip s1 hu q0
 refine⟨a,rfl,.inl ⟨ws0,.inl g0⟩,?_⟩
 refine hk B σ H1 α1 ω1 ρ _ s1 (sl.evo e1) (w1.bind.imp fun x α2 ω2 H2 e2 s2 w2 v hv=> ?_)
 obtain⟨k,q1,w2⟩:=WS.ofO w2
 obtain⟨⟨i,kvs⟩,q2,w2⟩:=WS.ofO w2
 obtain⟨qi,a',ws,ha,ea,g1,g2⟩:=ip s2 (hu.evo e2) q2
 cases ea
 dsimp only at w2
 obtain⟨y,q,w2⟩:=WS.ofO w2
 obtain⟨z,hz,vz⟩:=(mY g2).1 y q
 have ev:Ev (ow B α2 ω2) H2 (ow B α2 ω2) (bL H2 a (.dK (lh ws k))):=sT ha qi (by intro z;cases z)
 have e4:Evo α2 ω2 H2 α2 (ω2.set i (.dct (kx kvs k))) (bL H2 a (.dK (lh ws k))):=Evo.put ha qi (by intro z;cases z) (by intro z;cases z)
 refine⟨ws,k,z,g1,kG q1 hv,hz,?_⟩
 exact w2 α2 _ e4 (s2.put ha qi (by intro z;cases z) (by intro z;cases z) ⟨_,aO,nK (Paired.mapP g2 fun _ _ r=>⟨r.1,r.2.ev ev fun _ _ h=>h⟩)⟩) z (vz.evo e4)
noncomputable def D1:cB:=fun _ ω=> .ok (.rf ω.length) (ω++[.dct []])
theorem kQ {Q:VK} {c:Cell} {o:HO} {p:Addr} (s:StoOk B K H α ω) (hp:H p=none) (w:WS K E B H α ω (PQ B K Q) (.ok (.rf ω.length) (ω++[c]))) (hc:∀e:Evo α ω H (α++[p]) (ω++[c]) (bL H p o),COk (ow B (α++[p]) (ω++[c])) K (bL H p o) (α++[p]) p c):Q (.ref p) (bL H p o):=by
 have sm:Same H (bL H p o):=cb hp _
 have e:Evo α ω H (α++[p]) (ω++[c]) (bL H p o):=Evo.newS s.len sm hp
 exact w _ _ e (s.newS sm hp (by rw[aO];simp) (hc e)) _ ⟨p,by rw[←s.len];exact bK,rfl⟩
theorem BC:eG K E zF D1:=by
 intro B σ H α ω ρ Q s sl w
 exact fun p hp=>kQ s hp w fun _=>⟨[],aO,.nil⟩
noncomputable def mC (fd:cB):cB:=fun ρ ω=>(fd ρ ω).bind fun o ω1=>(RS.ofO ω1 (f8 ω1 o)).bind fun p ω1=> .ok (.rf ω1.length) (ω1++[.lst (p.2.map (·.2))])
theorem nU:∀{ws:List (bJ×V)} {kvs:List (bJ×SV)},pR O K H α ws kvs→VsOk O K H α (ws.map (·.2)) (kvs.map (·.2))
 |_,_,.nil=> .nil
 |_,_,.cons h t=> .cons h.2 (nU t)
theorem oS {td:TE} {fd:cB} (hd:eG K E td fd):eG K E (CG z6 (j5 (FL K "dict" BK td) pp)) (mC fd):=by
 intro B σ H α ω ρ Q s sl w
 refine hd B σ H α ω ρ _ s sl (w.bind.imp fun o α1 ω1 H1 e1 s1 w1 u hu=> ?_)
 obtain⟨⟨i,kvs⟩,q2,w1⟩:=WS.ofO w1
 obtain⟨qi,a,ws,ha,rfl,g1,g2⟩:=ip s1 hu q2
 refine⟨.inr (.inr (.inl ⟨rfl,.inl ⟨ws,g1⟩⟩)),a,ws,rfl,rfl,g1,fun p hp=> ?_⟩
 have sm:Same H1 (bL H1 p (xL p a)):=cb hp _
 have s2:=s1.grow sm
 have w2:=WS.from (Evo.same sm) w1
 refine⟨p,a,ws,rfl,aO,sm _ _ g1,fun l hl=> ?_⟩
 refine kQ s2 hl w2 fun e=>⟨_,aO,nU (Paired.mapP g2 fun _ _ r=>⟨r.1,(r.2.evo (Evo.same sm)).evo e⟩)⟩
noncomputable def wF:bJ→Option Int
 | .inl i=>some i
 | .inr _=>none
noncomputable def jZ (fd:cB):cB:=fun ρ ω=>(fd ρ ω).bind fun o ω1=>(RS.ofO ω1 (f8 ω1 o)).bind fun p ω1=>(RS.ofO ω1 (aL wF (p.2.map (·.1)))).bind fun ns ω1=>if ns.length<64 then .ok (.rf ω1.length) (ω1++[.lst ((gH ns).map fun i=>SV.fz (.int i))]) else .bad
theorem nT:∀{ks:List bJ} {ns:List Int},aL wF ks=some ns→ks=ns.map Sum.inl
 |[],_,e=>by cases e;rfl
 |k::r,ns,e=>by
  unfold aL at e
  cases k with
  |inr x=>cases e
  |inl i=>
   dsimp only[wF] at e
   cases q:aL wF r with
   |none=>rw[q] at e;cases e
   |some ms=>
    rw[q] at e
    cases e
    rw[List.map_cons,←nT q]
theorem ub:∀{ws:List (bJ×V)} {kvs:List (bJ×SV)},pR O K H α ws kvs→ws.map (·.1)=kvs.map (·.1)
 |_,_,.nil=>rfl
 |_,_,.cons h t=>by rw[List.map_cons,List.map_cons,h.1,ub t]
theorem w6 (O:b6) (K:PySem.W.Frag) (H:Hp) (α:List Addr):∀ns:List Int,VsOk O K H α (ns.map V.int) (ns.map fun i=>SV.fz (.int i))
 |[]=> .nil
 |n::r=> .cons (.int n) (w6 O K H α r)
theorem uu {td:TE} {fd:cB} (hd:eG K E td fd):eG K E (CG zX (j5 td pp)) (jZ fd):=by
 intro B σ H α ω ρ Q s sl w
 refine hd B σ H α ω ρ _ s sl (w.bind.imp fun o α1 ω1 H1 e1 s1 w1 u hu=> ?_)
 obtain⟨⟨i,kvs⟩,q2,w1⟩:=WS.ofO w1
 obtain⟨qi,a,ws,ha,rfl,g1,g2⟩:=ip s1 hu q2
 obtain⟨ns,q3,w1⟩:=WS.ofO w1
 by_cases hn:ns.length<64
 ·rw[if_pos hn] at w1
  refine⟨a,ws,ns,rfl,g1,by rw[ub g2];exact nT q3,hn,fun l ms hl hp hs=> ?_⟩
  have em:ms=gH ns:=jK (hp.trans (eR ns).symm) hs (eE ns)
  subst em
  exact kQ s1 hl w1 fun e=>⟨_,aO,w6 _ _ _ _ _⟩
 ·rw[if_neg hn] at w1;exact w1.elim
noncomputable def om:D→Option (bJ×SV)
 | .tuple [.int i,d]=>some (.inl i,.fz d)
 | .tuple [.str x,d]=>some (.inr x,.fz d)
 |_=>none
noncomputable def rm:SV→Option (List (bJ×SV))
 | .fz (.tuple ds)=>aL om ds
 |_=>none
theorem ym {x:SV} {ps:List (bJ×SV)} (e:rm x=some ps):∃ds,x= .fz (.tuple ds)∧aL om ds=some ps:=by
 unfold rm at e
 split at e
 ·exact⟨_,rfl,e⟩
 ·cases e
noncomputable def ja (kvs more:List (bJ×SV)):List (bJ×SV):=more.foldl (fun acc kv=>iE acc kv.1 kv.2) kvs
noncomputable def uD (fe:cB):cB:=fun ρ ω=>(fe ρ ω).bind fun x ω1=>(RS.ofO ω1 (rm x)).bind fun ps ω1=> .ok (.rf ω1.length) (ω1++[.dct (ja [] ps)])
theorem t7:∀{vs:List V} {ds:List D} {ps:List (bJ×SV)},L3.DVs O K H vs ds→aL om ds=some ps→∃kvs,PrsOk K H vs kvs∧pR O K H α kvs ps
 |_,_,_,.nil,e=>by cases e;exact⟨[],.nil,.nil⟩
 |_,_,_,.cons (d:=d) (ds:=ds) h t,e=>by
  unfold aL at e
  cases q:om d with
  |none=>rw[q] at e;cases e
  |some p=>
   rw[q] at e
   dsimp only at e
   cases q2:aL om ds with
   |none=>rw[q2] at e;cases e
   |some ps=>
    rw[q2] at e
    cases e
    obtain⟨kvs,k1,k2⟩:=t7 t q2
    unfold om at q
    split at q
    ·cases q
     cases h with
     |tup h hs=>cases hs with
      |cons a b=>cases b with
       |cons b c=>
        cases c;cases a
        exact⟨(.inl _,_)::kvs,.cons h.1 k1,.cons ⟨rfl,b⟩ k2⟩
    ·cases q
     cases h with
     |tup h hs=>cases hs with
      |cons a b=>cases b with
       |cons b c=>
        cases c;cases a
        exact⟨(.inr _,_)::kvs,.cons h.1 k1,.cons ⟨rfl,b⟩ k2⟩
    ·cases q
theorem wU:∀{more:List (bJ×V)} {ms:List (bJ×SV)} {ws:List (bJ×V)} {kvs:List (bJ×SV)},pR O K H α more ms→pR O K H α ws kvs→pR O K H α (kc ws more) (ja kvs ms)
 |_,_,_,_,.nil,h=>h
 |(a,u)::more,(b,y)::ms,_,_,.cons r t,h=>by
  obtain⟨r1,r2⟩:=r
  cases r1
  show pR O K H α (kc (hU _ a u) more) (ja (iE _ a y) ms)
  exact wU (more:=more) (ms:=ms) t (xc r2 h)
theorem z8 {te:TE} {fe:cB} (he:eG K E te fe):eG K E (CG (A9 K) (j5 te pp)) (uD fe):=by
 intro B σ H α ω ρ Q s sl w
 refine he B σ H α ω ρ _ s sl (w.bind.imp fun x α1 ω1 H1 e1 s1 w1 u hu=> ?_)
 obtain⟨ps,q,w2⟩:=WS.ofO w1
 obtain⟨ds,rfl,q⟩:=ym q
 have w2:WS K E B H1 α1 ω1 (PQ B K Q) (.ok (.rf ω1.length) (ω1++[.dct (ja [] ps)])):=w2
 cases hu with
 |tup h hs=>
  obtain⟨kvs,k1,k2⟩:=t7 (α:=α1) hs q
  exact⟨_,_,kvs,rfl,h.1,k1,fun d hd=>kQ s1 hd w2 fun e=>⟨_,aO,wU (Paired.mapP k2 fun _ _ r=>⟨r.1,r.2.evo e⟩) .nil⟩⟩
end
end L10
namespace PySem
open PyProof.Rows
noncomputable def jT:Option Int→Int→Option Int
 |none,x=>some x
 |some m,x=>some (if x>m then x else m)
noncomputable def Gz:Option (Int×Tok)→Array Value
 |none=> #[]
 |some (m,t)=> #[.int m t,.int m t]
noncomputable def DK (d:Value):Option (Int×Tok)→Value
 |none=>d
 |some (m,t)=> .int m t
namespace F
theorem args_maxd (a b:Value):checkBuiltinCall "max" ⟨[a],[("default",b)]⟩=pure ():=by kernel_rfl
end F
section
variable {prog:Program} {w:World} {A:Around} {E:Value→Shared→Prop} {R:Result→Shared→Prop} {I l S:Addr} {vs:List Value} {d:Value}
theorem Cy (hh:A.handled=none) (hne:l≠I) (hSI:S≠I) (hSl:S≠l) {s:Shared}:
  ∀{vs':List Value} {ns:List Int},IntsAre vs' ns→∀(i:Nat) (h:Heap) (tk:Nat) (b:Option (Int×Tok)) (c:Nat),vs=vs.take i++vs'→i≤vs.length→h.IsListIter I l i→h.IsList l vs.toArray→h.get? S=some {cls:= .type "list",dict:=none,data:= .seq (Gz b) c,slots:= #[]}→
  (∀h' tk b',b'.map (·.1)=ns.foldl jT (b.map (·.1))→(∀a o,a≠I→a≠S→h.get? a=some o→h'.get? a=some o)→R (.ok (.ret (DK d b'))) {s with heap:=h',toks:=tk})→
  codeAny (model prog w) A (.builtin "max.loop" ⟨[.ref I,.none,.ref S],[("default",d)]⟩) R {s with heap:=h,toks:=tk}:=by
 have W:=Walks.list (prog:=prog) (w:=w) (A:=A.in1) hh I l hne vs.toArray
 intro vs' ns hi
 induction hi with
 |nil=>
  intro i h tk b c hv hi it li hS hR
  have e:i=vs.toArray.size:=by
   rw[List.append_nil] at hv
   have:=congrArg List.length hv
   rw[List.length_take] at this
   rw[List.size_toArray];omega
  refine codeAny_builtin F.entry_max_loop ?_
  rw[Around.under_plainId F.plain_max_loop _]
  show wpAny _ A.in1 (seqItems? (.ref S)>>=_) _ _ _
  refine wpAny_bind (wpAny_seqItems hS rfl ?_)
  show wpAny _ A.in1 (tryCatch (pyNext (.ref I)) _>>=_) _ _ _
  refine wpAny_bind (wpAny_tryCatch (W.done _ _ _ (e▸⟨it,li⟩) fun h' tk' hk=> ?_))
  have hS':=hk S _ (by simpa using hSI) hS
  cases b with
  |none=>
   show wpAny _ A.in1 (rule _>>=fun _=>ret d) _ _ _
   refine wpAny_bind (wpAny_rule (wpAny_pure ?_))
   exact hR h' tk' none rfl fun a o h1 h2 e=>hk a o (by simpa using h1) e
  |some p=>
   obtain⟨m,t⟩:=p
   show wpAny _ A.in1 (updateSeq S (fun _=> #[])>>=_) _ _ _
   refine wpAny_bind (wpAny_updateSeq hS' rfl (wpAny_bind (wpAny_letGo (wpAny_pure ?_))) (hz:=by show 2≤sizeLine;decide))
   exact hR _ tk' (some (m,t)) rfl fun a o h1 h2 e=>(Heap.get?_update_other _ _ (Ne.symm h2)).trans (hk a o (by simpa using h1) e)
 | @cons n t vs'' ns'' hr ih=>
  intro i h tk b c hv hi it li hS hR
  have hlt:i<vs.toArray.size:=by
   have:=congrArg List.length hv
   rw[List.length_append,List.length_take,List.length_cons] at this
   rw[List.size_toArray];omega
  have hat:vs[i]? =some (.int n t):=by
   rw[hv,List.getElem?_append_right (by rw[List.length_take];omega),List.length_take,Nat.min_eq_left hi,Nat.sub_self];rfl
  have hnx:vs=vs.take (i+1)++vs'':=by
   rw[List.take_add_one,hat]
   show vs=vs.take i++[Value.int n t]++vs''
   rw[List.append_assoc];exact hv
  have hl1:i+1≤vs.length:=by rw[List.size_toArray] at hlt;exact hlt
  refine codeAny_builtin F.entry_max_loop ?_
  rw[Around.under_plainId F.plain_max_loop _]
  show wpAny _ A.in1 (seqItems? (.ref S)>>=_) _ _ _
  refine wpAny_bind (wpAny_seqItems hS rfl ?_)
  show wpAny _ A.in1 (tryCatch (pyNext (.ref I)) _>>=_) _ _ _
  refine wpAny_bind (wpAny_tryCatch (W.item i _ _ _ hlt ⟨it,li⟩ fun v h' tk' hP st hk=> ?_))
  have ev:v= .int n t:=by
   have hP':vs.toArray[i]? =some v:=hP
   rw[List.getElem?_toArray,hat] at hP'
   exact(Option.some.inj hP').symm
  subst ev
  have hS':=hk S _ (by simpa using hSI) hS
  have hname:(toString "max"++toString ".loop":String)= "max.loop":=by decide
  cases b with
  |none=>
   show wpAny _ A.in1 (updateSeq S (fun _=> #[Value.int n t,Value.int n t])>>=_) _ _ _
   refine wpAny_bind (wpAny_updateSeq hS' rfl ?_)
   rw[hname]
   refine wpAny_pure ⟨plainId_quiet F.plain_max_loop _,ih (i+1) _ tk' (some (n,t)) _ hnx hl1 (st.1.at fun o e=> ?_) (st.2.at fun o e=> ?_) (Heap.get?_update_self _ hS' rfl) fun h2 tk2 b2 e2 k2=>hR h2 tk2 b2 e2 fun a o h1 h3 e=>k2 a o h1 h3 ((Heap.get?_update_other _ _ (Ne.symm h3)).trans (hk a o (by simpa using h1) e))⟩
   ·exact(Heap.get?_update_other _ _ hSI).trans e
   ·exact(Heap.get?_update_other _ _ hSl).trans e
  |some p=>
   obtain⟨m,t0⟩:=p
   show wpAny _ A.in1 (tryCatch (holding [Value.int n t,Value.int n t] (richCompare .Gt (Value.int n t) (Value.int m t0)>>=_)) _>>=_) _ _ _
   have hcmp:=CmpOf.ints_gt (prog:=prog) (w:=w) (A:=A.in1) (P:=fun(k:Nat) v=>(k=0∧v=Value.int n t)∨(k=1∧v=Value.int m t0)) (fun k=>if k=0 then n else m) fun k v hv=>by
    rcases hv with⟨rfl,rfl⟩|⟨rfl,rfl⟩
    ·exact⟨t,rfl⟩
    ·exact⟨t0,rfl⟩
   refine wpAny_bind (wpAny_tryCatch (wpAny_holding (wpAny_bind (hcmp 0 1 _ _ _ _ _ (.inl ⟨rfl,rfl⟩) (.inr ⟨rfl,rfl⟩) ?_))))
   refine wpAny_bind (wpAny_holding (wpAny_truthy_bool ?_))
   refine wpAny_bind (wpAny_letGo (wpAny_pure ?_))
   show wpAny _ A.in1 (if decide (n>m)=true then _ else _) _ _ _
   by_cases hb:n>m
   ·rw[if_pos (decide_eq_true hb)]
    refine wpAny_bind (wpAny_updateSeq hS' rfl (wpAny_bind (wpAny_letGo ?_)) (hz:=by show 2≤sizeLine;decide))
    rw[hname]
    refine wpAny_pure ⟨plainId_quiet F.plain_max_loop _,ih (i+1) _ tk' (some (n,t)) _ hnx hl1 (st.1.at fun o e=> ?_) (st.2.at fun o e=> ?_) (Heap.get?_update_self _ hS' rfl) fun h2 tk2 b2 e2 k2=>hR h2 tk2 b2 ?_ fun a o h1 h3 e=>k2 a o h1 h3 ((Heap.get?_update_other _ _ (Ne.symm h3)).trans (hk a o (by simpa using h1) e))⟩
    ·exact(Heap.get?_update_other _ _ hSI).trans e
    ·exact(Heap.get?_update_other _ _ hSl).trans e
    ·rw[e2];show _=ns''.foldl jT (some (if n>m then n else m));rw[if_pos hb];rfl
   ·rw[if_neg (by rw[decide_eq_false hb];exact Bool.false_ne_true)]
    refine wpAny_bind (wpAny_letGo ?_)
    rw[hname]
    refine wpAny_pure ⟨plainId_quiet F.plain_max_loop _,ih (i+1) _ tk' (some (m,t0)) c hnx hl1 st.1 st.2 hS' fun h2 tk2 b2 e2 k2=>hR h2 tk2 b2 ?_ fun a o h1 h3 e=>k2 a o h1 h3 (hk a o (by simpa using h1) e)⟩
    rw[e2];show _=ns''.foldl jT (some (if n>m then n else m));rw[if_neg hb];rfl
theorem yP {s:Shared} {ns:List Int} {Q:Value→Shared→Prop} (hh:A.handled=none) (hl:s.heap.IsList l vs.toArray) (hi:IntsAre vs ns)
  (hQ:∀h' tk b,b.map (·.1)=ns.foldl jT none→(∀a o,s.heap.get? a=some o→h'.get? a=some o)→Q (DK d b) {s with heap:=h',toks:=tk}):
  wpAny (model prog w) A (call (.builtin "max") [.ref l] [("default",d)]) Q E s:=by
 have hlt:l<s.heap.objs.size:=by obtain⟨_,e,_⟩:=hl;exact Heap.lt_size e
 have hname:(toString "max"++toString ".loop":String)= "max.loop":=by decide
 refine wpAny_call (codeAny_call_builtin F.plain_max F.entry_max (wpAny_of_eq (F.args_maxd _ _) ?_))
 show wpAny _ A.in1 (Builtin.Builtins.bindParams "max" ["key","default"] 0 ⟨[],[("default",d)]⟩>>=_) _ _ s
 refine wpAny_bind (wpAny_of_eq (show Builtin.Builtins.bindParams "max" ["key","default"] 0 ⟨[],[("default",d)]⟩=pure [none,some d] from rfl) ?_)
 refine wpAny_bind (wpAny_pure ?_)
 refine wpAny_bind (wpAny_pyIter_list hl ?_)
 refine wpAny_bind (wpAny_newObj_type ?_)
 rw[hname]
 have hlI:(s.heap.push {cls:= .type "list_iterator",data:= .fields #[.ref l,.int 0 0]}).objs.size=s.heap.objs.size+1:=Heap.size_push _ _
 refine wpAny_pure ⟨plainId_quiet F.plain_max_loop _,Cy (vs:=vs) (S:=(s.heap.push {cls:= .type "list_iterator",data:= .fields #[.ref l,.int 0 0]}).objs.size) hh (Nat.ne_of_lt hlt) (by rw[hlI];exact Nat.succ_ne_self _) (by rw[hlI];exact Nat.ne_of_gt (Nat.lt_succ_of_lt hlt)) hi 0 _ s.toks none 0 rfl (Nat.zero_le _) ⟨_,Heap.get?_push_of_some _ (Heap.get?_push_size _ rfl),rfl,rfl⟩ ((hl.push _).push _) (Heap.get?_push_size _ rfl) fun h' tk b hb hk=> ?_⟩
 refine hQ h' tk b hb fun a o e=> ?_
 have la:=Heap.lt_size e
 exact hk a o (Nat.ne_of_lt la) (by rw[hlI];exact Nat.ne_of_lt (Nat.lt_succ_of_lt la)) (Heap.get?_push_of_some _ (Heap.get?_push_of_some _ e))
end
end PySem
namespace L10
open PySem PySem.Spec PyProof.Rows L2 L3
def DC (K:PySem.W.Frag) (i:Int):List V→Hp→VK→Prop:=fun xs H Q=>∃(p:Addr) (ns:List Int),xs=[.ref p]∧SqL K H p (ns.map V.int)∧Q (.int ((ns.foldl jT none).getD i)) H
theorem Dg {X:Cx} {l:Expr} {ta:TA} {i:Int} {p pos p1 p2:Pos} {j:Nat} (hc:X.calm=true) (hg:Gl X "max") (hm:X.mg "max"=none) (ha:PA X [l] ta) (hs:GC l=false:=by rfl):
  PE X (.Call (.Name "max" p) [l] [⟨some "default",.Constant (.int i) j p1,p2⟩] pos) (CG (DC X.K i) ta):=by
 intro pins s σ H Q I h
 refine wpAny_Call_Name_kw (lI I hg hm DY (callWith_kw (dH (ha pos pins s σ H _ I h) fun us s1 ⟨vs,H1,I1,r1,q1⟩=> ?_) (by rw[qO _ _ _ hs];rfl) (by rw[qO _ _ _ hs];rfl) rfl rfl))
 obtain⟨a,ns,rfl,hq,q⟩:=q1
 obtain⟨u,rfl,ru⟩:=iR r1
 cases ru
 obtain⟨its,rv,pl,hz⟩:=I1.list hq
 refine PyProof.Rows.kws_cons (wpAny_Constant_int (PyProof.Rows.kws_nil ?_))
 have I2:=I1.tok (s1.toks+1)
 refine yP (s:={s1 with toks:=s1.toks+1}) (I1.ok.hd hc) pl.isList (iw rv) fun h' tk b hb hk=> ?_
 refine⟨.int ((ns.foldl jT none).getD i),H1,I1.kept (t':=tk) hk,?_,q⟩
 rw[←hb]
 cases b with
 |none=>exact⟨_,rfl⟩
 |some p=>obtain⟨m,t⟩:=p;exact⟨t,rfl⟩
noncomputable def Bk (i:Int):List D→Option RV
 |[.list ds]=>(i4 ds).map fun ns=> .fz (.int ((ns.foldl jT none).getD i))
 |_=>none
theorem Cz {K:PySem.W.Frag} {i:Int}:BO K (DC K i) (Bk i):=by
 intro O H xs ds rv Q n hp e q
 unfold Bk at e
 split at e
 ·rename_i es
  cases hp with
  |cons h1 h2=>
   cases h2
   cases qa:i4 es with
   |none=>rw[qa] at e;cases e
   |some ns=>
    rw[qa] at e
    cases e
    obtain⟨a,vs,rfl,h3,h4⟩:=xn h1
    obtain rfl:=kS h4 qa
    exact⟨a,ns,rfl,h3.sq,q.at (.int _)⟩
 ·cases e
end L10
namespace L10
open PySem L2 L3
section
variable {B O O':b6} {K:PySem.W.Frag} {E:XK} {H H' H1 H2:Hp} {α α' α1 α2:List Addr} {ω ω' ω1 ω2:bz} {σ:L2.St} {ρ:cg} {v:V}
theorem gf {A:Type} {l r:List A} {y:A} {i:Nat} (h:(l++r)[i]? =some y):l[i]? =some y∨∃j,i=l.length+j∧r[j]? =some y:=by
 by_cases hi:i<l.length
 ·rw[List.getElem?_append_left hi] at h;exact .inl h
 ·rw[List.getElem?_append_right (by omega)] at h;exact .inr ⟨i - l.length,by omega,h⟩
theorem xU {A:Type} {l r:List A} {y:A} {i:Nat} (h:l[i]? =some y):(l++r)[i]? =some y:=by
 rw[List.getElem?_append_left (List.getElem?_eq_some_iff.mp h).1];exact h
theorem BA {A:Type} {l r:List A} {y:A} {i:Nat} (h:r[i]? =some y):(l++r)[l.length+i]? =some y:=by
 rw[List.getElem?_append_right (by omega),Nat.add_sub_cancel_left];exact h
theorem zr {ps:List Addr} {cs:bz} (hl:α.length=ω.length) {b:Addr} (h:Lv (α++ps) (ω++cs) b):Lv α ω b∨b∈ps:=by
 obtain⟨i,d,h1,h2,h3⟩:=h
 rcases gf h1 with g1|⟨j,e1,g1⟩
 ·rcases gf h2 with g2|⟨k,e2,g2⟩
  ·exact .inl ⟨i,d,g1,g2,h3⟩
  ·have:=(List.getElem?_eq_some_iff.mp g1).1;omega
 ·exact .inr (List.mem_of_getElem? g1)
theorem Evo.adoptL {ps:List Addr} {cs:bz} (s:StoOk B K H α ω) (e:Same H H') (hp:∀p∈ps,H p=none):Evo α ω H (α++ps) (ω++cs) H':=
 ⟨fun i a h=>xU h,fun b u q _=>e b u q,fun b z=>(zr s.len z).imp id fun z=>hp b z⟩
theorem StoOk.adoptL {ps:List Addr} {cs:bz} (s:StoOk B K H α ω) (e:Same H H') (hp:∀p∈ps,H p=none) (hq:∀p∈ps,H' p≠none) (nd:∀(i j:Nat) (a:Addr),ps[i]? =some a→ps[j]? =some a→i=j) (hl:ps.length=cs.length)
  (new:∀(i:Nat) (a:Addr) (c:Cell),ps[i]? =some a→cs[i]? =some c→COk (ow B (α++ps) (ω++cs)) K H' (α++ps) a c):StoOk B K H' (α++ps) (ω++cs):=by
 have ev:Evo α ω H (α++ps) (ω++cs) H':=Evo.adoptL s e hp
 have n:∀b,H b≠none→H' b≠none:=fun b h z=>h (e.free z)
 refine⟨by rw[List.length_append,List.length_append,s.len,hl],fun i j a h1 h2=> ?_,fun a h=>n a (s.bn a h),fun a h i q=> ?_,fun i a h=> ?_,fun i a d h1 h2=> ?_⟩
 ·rcases gf h1 with g1|⟨i',e1,g1⟩<;>rcases gf h2 with g2|⟨j',e2,g2⟩
  ·exact s.nd i j a g1 g2
  ·exact absurd (hp a (List.mem_of_getElem? g2)) (s.al i a g1)
  ·exact absurd (hp a (List.mem_of_getElem? g1)) (s.al j a g2)
  ·have:=nd i' j' a g1 g2;omega
 ·rcases gf q with q|⟨j,_,q⟩
  ·exact s.ba a h i q
  ·exact s.bn a h (hp a (List.mem_of_getElem? q))
 ·rcases gf h with h|⟨j,_,h⟩
  ·exact n a (s.al i a h)
  ·exact hq a (List.mem_of_getElem? h)
 ·have hle:=s.len
  rcases gf h2 with g2|⟨j,e2,g2⟩
  ·rcases gf h1 with g1|⟨k,e1,g1⟩
   ·exact(s.cel i a d g1 g2).ev ev.ev ev.pre fun o q=>e _ _ q
   ·have:=(List.getElem?_eq_some_iff.mp g2).1;omega
  ·rcases gf h1 with g1|⟨k,e1,g1⟩
   ·have:=(List.getElem?_eq_some_iff.mp g1).1;omega
   ·have:k=j:=by omega
    subst this
    exact new k a d g1 g2
noncomputable def vR (ω':bz):Nat→List AV→Option (List AV×List (List D)×List Nat)
 |_,[]=>some ([],[],[])
 |n,.fz d::r=>match vR ω' n r with
  |some (l,cs,js)=>some (.fz d::l,cs,js)
  |none=>none
 |n,.rf i::r=>match sh ω' (.rf i) with
  |some (.list ds)=>(match vR ω' (n+1) r with
   |some (l,cs,js)=>some (.rf n::l,ds::cs,i::js)
   |none=>none)
  |_=>none
noncomputable def GY (ds:List D):Cell:= .lst (ds.map .fz)
noncomputable def ny (x:SV) (ω' ω:bz):RS SV:=match x with
 | .fz d=> .ok (.fz d) ω
 | .rf i=>(match sh ω' (.rf i) with
  |some (.list ds)=>jg ω (.ow ds)
  |_=> .bad)
 | .tp l=>(match vR ω' ω.length l with
  |some (l',cs,js)=>if js.Nodup then .ok (.tp l') (ω++cs.map GY) else .bad
  |none=> .bad)
theorem rJ {i:Nat} {ds:List D} (h:sh ω (.rf i)=some (.list ds)):∃xs,ω[i]? =some (.lst xs)∧aL qS xs=some ds:=by
 unfold sh at h
 dsimp only at h
 cases q:ω[i]? with
 |none=>rw[q] at h;cases h
 |some c=>
  rw[q] at h
  cases c with
  |lst xs=>
   dsimp only at h
   cases q2:aL qS xs with
   |none=>rw[q2] at h;cases h
   |some es=>rw[q2] at h;cases h;exact⟨xs,rfl,q2⟩
  |_=>cases h
theorem ke (s:StoOk B K H α ω) {i:Nat} {ds:List D} (h:sh ω (.rf i)=some (.list ds)):∃a vs,α[i]? =some a∧H a=some (.lst vs)∧L3.DVs (ow B α ω) K H vs ds∧ow B α ω a:=by
 obtain⟨xs,q1,q2⟩:=rJ h
 obtain⟨a,ha⟩:=s.at q1
 obtain⟨vs,h1,h2⟩:=s.cel i a _ ha q1
 exact⟨a,vs,ha,h1,jh (dA (R:=VOk (ow B α ω) K H α) (S:=L3.DV (ow B α ω) K H) (fun v x y r e=>wb r e) h2 q2),.inr ⟨i,_,ha,q1,by intro z;cases z⟩⟩
theorem zp {B':b6} (s:StoOk B' K H' α' ω'):∀{n:Nat} {l l':List AV} {cs:List (List D)} {js:List Nat} {xs:List V},vR ω' n l=some (l',cs,js)→Paired (AOk (ow B' α' ω') K H' α') xs l→
  ∃ps:List Addr,ps.length=js.length∧cs.length=js.length∧(∀(k j:Nat),js[k]? =some j→∃a ds vs,ps[k]? =some a∧cs[k]? =some ds∧α'[j]? =some a∧H' a=some (.lst vs)∧L3.DVs (ow B' α' ω') K H' vs ds∧ow B' α' ω' a)∧
   ∀(γ:List Addr),γ.length=n→Paired (AOk (ow B' α' ω') K H' (γ++ps)) xs l'
 |_,[],_,_,_,_,e,.nil=>by
  cases e
  exact⟨[],rfl,rfl,fun k j h=>by simp at h,fun γ _=> .nil⟩
 |n,.fz d::r,l',cs,js,_,e,.cons h t=>by
  unfold vR at e
  cases q:vR ω' n r with
  |none=>rw[q] at e;cases e
  |some p=>
   obtain⟨l1,cs1,js1⟩:=p
   rw[q] at e
   cases e
   obtain⟨ps,h1,h2,h3,h4⟩:=zp s q t
   exact⟨ps,h1,h2,h3,fun γ hγ=> .cons h (h4 γ hγ)⟩
 |n,.rf i::r,l',cs,js,_,e,.cons h t=>by
  unfold vR at e
  cases qs:sh ω' (.rf i) with
  |none=>rw[qs] at e;cases e
  |some d=>
   rw[qs] at e
   cases d with
   |list ds=>
    dsimp only at e
    cases q:vR ω' (n+1) r with
    |none=>rw[q] at e;cases e
    |some p=>
     obtain⟨l1,cs1,js1⟩:=p
     rw[q] at e
     cases e
     obtain⟨ps,h1,h2,h3,h4⟩:=zp s q t
     obtain⟨a,vs,ha,hv,hd,ho⟩:=ke s qs
     refine⟨a::ps,by rw[List.length_cons,List.length_cons,h1],by rw[List.length_cons,List.length_cons,h2],fun k j hk=> ?_,fun γ hγ=> ?_⟩
     ·cases k with
      |zero=>cases hk;exact⟨a,ds,vs,rfl,rfl,ha,hv,hd,ho⟩
      |succ k=>exact h3 k j (by simpa using hk)
     ·have e2:γ++a::ps=(γ++[a])++ps:=by simp
      obtain⟨a',ha',rfl⟩:=h
      rw[ha] at ha'
      cases ha'
      refine .cons ⟨a,by rw[←hγ];exact BA (l:=γ) (r:=a::ps) (i:=0) rfl,rfl⟩ ?_
      rw[e2]
      exact h4 (γ++[a]) (by rw[List.length_append,hγ];rfl)
   |_=>cases e
theorem yW {Q:VK} {x:SV} (s:StoOk B K H α ω) (w:WS K E B H α ω (PQ B K Q) (ny x ω' ω)) (e':Evo [] [] H α' ω' H') (s':StoOk (ow B α ω) K H' α' ω') (hv:VOk (ow (ow B α ω) α' ω') K H' α' v x):Q v H':=by
 have sm:Same H H':=fun b o h=>e'.kp b o h fun⟨i,c,q,_⟩=>by simp at q
 have sub:∀b,ow B α ω b→ow (ow B α ω) α' ω' b:=fun b z=> .inl z
 have fr:∀(i:Nat) (a:Addr) (c:Cell),α'[i]? =some a→ω'[i]? =some c→c≠ .dead→H a=none:=fun i a c h1 h2 h3=>(e'.lv a ⟨i,c,h1,h2,h3⟩).elim (fun⟨i,c,q,_⟩=>by simp at q) id
 cases x with
 |fz d=>exact w α H' (Evo.same sm) (s.grow sm) v (DV.ev (Ev.sub sub) hv)
 |rf i=>
  unfold ny at w
  dsimp only at w
  cases qs:sh ω' (.rf i) with
  |none=>rw[qs] at w;exact w.elim
  |some d=>
   rw[qs] at w
   cases d with
   |list ds=>
    obtain⟨a,vs,ha,h1,hd,ho⟩:=ke s' qs
    obtain⟨xs,q1,_⟩:=rJ qs
    obtain⟨a',ha',rfl⟩:=hv
    rw[ha] at ha'
    cases ha'
    exact oY s w sm (fr i a _ ha q1 (by intro z;cases z)) h1 hd sub ho
   |_=>exact w.elim
 |tp l=>
  unfold ny at w
  dsimp only at w
  cases qg:vR ω' ω.length l with
  |none=>rw[qg] at w;exact w.elim
  |some p=>
   obtain⟨l',cs,js⟩:=p
   rw[qg] at w
   dsimp only at w
   by_cases hn:js.Nodup
   ·rw[if_pos hn] at w
    obtain⟨a,xs,rfl,ht,hl⟩:=hv
    obtain⟨ps,g1,g2,g3,g4⟩:=zp s' qg hl
    have pj:∀(k:Nat) (b:Addr),ps[k]? =some b→∃j ds vs,js[k]? =some j∧cs[k]? =some ds∧α'[j]? =some b∧H' b=some (.lst vs)∧L3.DVs (ow (ow B α ω) α' ω') K H' vs ds∧ow (ow B α ω) α' ω' b:=fun k b hb=>by
     have hk:k<js.length:=by rw[←g1];exact(List.getElem?_eq_some_iff.mp hb).1
     obtain⟨b',ds,vs,q1,q2,q3,q4,q5,q6⟩:=g3 k _ (List.getElem?_eq_getElem hk)
     rw[hb] at q1
     cases q1
     exact⟨_,ds,vs,List.getElem?_eq_getElem hk,q2,q3,q4,q5,q6⟩
    have nB:∀(j:Nat) (b:Addr),α'[j]? =some b→ow (ow B α ω) α' ω' b→H b=none:=fun j b hj ho=>by
     rcases ho with z|⟨i,c,z1,z2,z3⟩
     ·exact absurd hj (s'.ba b z j)
     ·exact fr i b c z1 z2 z3
    have fp:∀p∈ps,H p=none:=fun p hp=>by
     obtain⟨k,hk⟩:=List.mem_iff_getElem?.mp hp
     obtain⟨j,ds,vs,q1,q2,q3,q4,q5,q6⟩:=pj k p hk
     exact nB j p q3 q6
    have sub2:∀b,ow B (α++ps) (ω++cs.map GY) b→ow (ow B α ω) α' ω' b:=fun b z=>by
     rcases z with z|z
     ·exact .inl (.inl z)
     ·rcases zr s.len z with z|z
      ·exact .inl (.inr z)
      ·obtain⟨k,hk⟩:=List.mem_iff_getElem?.mp z
       obtain⟨j,ds,vs,q1,q2,q3,q4,q5,q6⟩:=pj k b hk
       exact q6
    have ev:=Evo.adoptL (cs:=cs.map GY) s sm fp
    refine w (α++ps) H' ev (s.adoptL sm fp (fun p hp=> ?_) (fun i j b hi hj=> ?_) (by rw[List.length_map,g1,g2]) fun i b c hi hc=> ?_) (.ref a) ⟨a,xs,rfl,ht.ev (Ev.sub sub2),Paired.mapP (g4 α s.len) fun _ _ r=>r.ev (Ev.sub sub2) fun _ _ h=>h⟩
    ·obtain⟨k,hk⟩:=List.mem_iff_getElem?.mp hp
     obtain⟨j,ds,vs,q1,q2,q3,q4,q5,q6⟩:=pj k p hk
     rw[q4];simp
    ·obtain⟨j1,_,_,p1,_,p3,_⟩:=pj i b hi
     obtain⟨j2,_,_,r1,_,r3,_⟩:=pj j b hj
     have:=s'.nd j1 j2 b p3 r3
     subst this
     have hi':i<js.length:=(List.getElem?_eq_some_iff.mp p1).1
     exact(List.getElem?_inj hi' hn).mp (p1.trans r1.symm)
    ·obtain⟨j,ds,vs,q1,q2,q3,q4,q5,q6⟩:=pj i b hi
     rw[List.getElem?_map,q2] at hc
     cases hc
     exact⟨vs,q4,lW _ _ (q5.ev (Ev.sub sub2))⟩
   ·rw[if_neg hn] at w;exact w.elim
noncomputable def mw (F:gX) (n:Nat) (xs:List SV) (ω:bz):RS SV:=if xs.length=n then(match aL qS xs with
 |some ds=>(match F (ds.map .fz) [] with
  | .ok x ω'=>ny x ω' ω
  | .er x _=> .er x ω
  | .bad=> .bad)
 |none=> .bad) else .bad
noncomputable def mf (F:gX) (n:Nat) (fa:kl):cB:=fun ρ ω=>(fa ρ ω).bind fun xs ω1=>i6 (mw F n xs ω1)
theorem Bs {B:b6} (h:∀a,B a→H a≠none):StoOk B K H [] []:=⟨rfl,fun i j a h=>by simp at h,h,fun a h i=>by simp,fun i a h=>by simp at h,fun i a c h=>by simp at h⟩
theorem sU:∀{xs:List SV} {ds:List D},aL qS xs=some ds→xs=ds.map .fz
 |[],_,e=>by cases e;rfl
 |x::r,ds,e=>by
  unfold aL at e
  cases x with
  |fz d=>
   dsimp only[qS] at e
   cases q:aL qS r with
   |none=>rw[q] at e;cases e
   |some es=>rw[q] at e;cases e;rw[List.map_cons,←sU q]
  |rf i=>cases e
  |tp l=>cases e
theorem zz {F:gX} {n:Nat} {xs:List SV} {vs:List V} {Q:VK} (s:StoOk B K H α ω) (hv:VsOk (ow B α ω) K H α vs xs) (w:WS K E B H α ω (PQ B K Q) (mw F n xs ω)):eI K n F vs H Q E:=by
 unfold mw at w
 by_cases hn:xs.length=n
 ·rw[if_pos hn] at w
  refine⟨hv.length.trans hn,?_⟩
  cases q:aL qS xs with
  |none=>rw[q] at w;exact w.elim
  |some ds=>
   rw[q] at w
   dsimp only at w
   have ex:=sU q
   refine⟨ow B α ω,[],[],ds.map .fz,Bs s.owd,?_,?_⟩
   ·rw[ex] at hv
    exact lW _ _ ((vL hv).ev (Ev.sub fun b z=>z.elim id fun⟨i,c,q,_⟩=>by simp at q))
   ·cases qF:F (ds.map .fz) [] with
    |bad=>rw[qF] at w;exact w.elim
    |ok x ω'=>
     rw[qF] at w
     exact fun α' H' e' s' v hv'=>yW s w e' s' hv'
    |er x ω'=>
     rw[qF] at w
     intro c dx α' H' e' s' k
     have sm:Same H H':=fun b o h=>e'.kp b o h fun⟨i,c,q,_⟩=>by simp at q
     exact w c dx α H' (Evo.same sm) (s.grow sm) (XOk.sub (fun b z=> .inl z) k)
 ·rw[if_neg hn] at w;exact w.elim
theorem jD {F:gX} {n:Nat} {ta:TA} {fa:kl} (ha:zj K E ta fa):eG K E (qM (eI K n F) [] E0 ta) (mf F n fa):=by
 intro B σ H α ω ρ Q s sl w
 refine ha B σ H α ω ρ _ s sl (w.bind.imp fun xs α1 ω1 H1 e1 s1 w1 vs hv=> ?_)
 rw[List.append_nil]
 exact zz s1 hv (WS.e0 w1)
noncomputable def Hb (F:gX):FN:=fun ds=>match F (ds.map .fz) [] with
 | .ok (.fz d) _=> .ok (.fz d)
 | .ok (.rf i) ω=>(match sh ω (.rf i) with
  |some (.list ds)=> .ok (.ow ds)
  |_=> .bad)
 | .ok (.tp _) _=> .bad
 | .er x _=> .er x
 | .bad=> .bad
theorem EH {F:gX} {n:Nat} {vs:List V} {Q:VK} (h:qu K n (Hb F) vs H Q E):eI K n F vs H Q E:=by
 obtain⟨hl,B,ds,hb,dv,w⟩:=h
 refine⟨hl,B,[],[],ds.map .fz,Bs hb,lW _ _ (dv.ev (Ev.sub fun b z=>z.elim id fun⟨i,c,q,_⟩=>by simp at q)),?_⟩
 unfold Hb at w
 cases qF:F (ds.map .fz) [] with
 |bad=>rw[qF] at w;exact w.elim
 |er x ω'=>
  rw[qF] at w
  intro c dx α' H' e' s' k
  exact w c dx H' (fun b o h=>e'.kp b o h fun⟨i,c,q,_⟩=>by simp at q) (XOk.sub (fun b z=> .inl z) k)
 |ok x ω'=>
  rw[qF] at w
  intro α' H' e' s' v hv
  have sm:Same H H':=fun b o h=>e'.kp b o h fun⟨i,c,q,_⟩=>by simp at q
  cases x with
  |fz d=>exact w v H' sm (DV.ev (Ev.sub fun b z=> .inl z) hv)
  |tp l=>exact w.elim
  |rf i=>
   dsimp only at w
   cases qs:sh ω' (.rf i) with
   |none=>rw[qs] at w;exact w.elim
   |some d=>
    rw[qs] at w
    cases d with
    |list es=>
     obtain⟨a,us,ha,h1,hd,ho⟩:=ke s' qs
     obtain⟨xs,q1,_⟩:=rJ qs
     obtain⟨a',ha',rfl⟩:=hv
     rw[ha] at ha'
     cases ha'
     refine w a us H' sm ((e'.lv a ⟨i,_,ha,q1,by intro z;cases z⟩).elim (fun⟨i,c,q,_⟩=>by simp at q) id) h1 (hd.ev (Ev.sub fun b z=>z.elim (fun z=> .inl z) fun z=>by rw[z];exact ho))
    |_=>exact w.elim
end
end L10
namespace L10
open PySem L2 L3
def bE (P:Program) (w:World) (K:PySem.W.Frag) (mg:Str→Option Value) (base:Heap) (CX:wz) (k:Nat) (C m:Str) (ps:List Str) (sp:Sp):Prop:=
 ∃Ca f fd,PySem.W.nsIn K mainGlobals C=some (some (.ref Ca))∧Cls K Ca∧Meth K Ca m f∧FnOk P w K mg base CX k f fd ps sp∧Binds K fd ps []
def zt (P:Program) (w:World) (K:PySem.W.Frag) (mg:Str→Option Value) (base:Heap) (CX:wz) (k:Nat) (C:Str) (ps:List Str) (sp:Sp):Prop:=
 ∃Ca f fd,PySem.W.nsIn K mainGlobals C=some (some (.ref Ca))∧mg C=some (.ref Ca)∧Mk K Ca f∧FnOk P w K mg base CX k f fd ps sp∧Binds K fd ps []
def v5 (K:PySem.W.Frag) (C m:Str) (sp:Sp) (E:XK) (ta:TE) (t:TA):TE:=fun σ H Q=>∃Ca,PySem.W.nsIn K mainGlobals C=some (some (.ref Ca))∧xB Ca m sp [] E ta t σ H Q
def Ba (K:PySem.W.Frag) (C:Str) (sp:Sp) (E:XK) (t:TA):TE:=fun σ H Q=>∃Ca,PySem.W.nsIn K mainGlobals C=some (some (.ref Ca))∧AG Ca sp [] E t σ H Q
section
variable {X:Cx} {CX:wz} {E:XK} {k j:Nat} {C m:Str} {ps:List Str} {sp:Sp} {o e:Expr} {es:List Expr} {ta:TE} {t:TA} {apos pos p:Pos}
theorem gw {pl:Sem Bool} (M:bE X.prog X.w X.K X.mg X.base CX k C m ps sp) (hx:gM CX X E) (hr:Room j X.A) (he:PE X o ta) (ha:PA X (e::es) t) (hjk:k≤j:=by decide)
  (d8:starEach (e::es) X.env=(false,eval e X.env)::starEach es X.env:=by rfl) (hpl:(backTo pos (starEach es X.env)).any (·.1)=false:=by rfl)
  (ht:eval (.Call (.Attribute o m apos) (e::es) [] pos) X.env=(do
   let ov←eval o X.env
   standAt apos.atName
   let(f,first)←holding [ov] (getMethod ov m pl)
   callWith pos f first (backTo pos (starEach (e::es) X.env)) (backToKw pos (keywordEach [] X.env))):=by rfl):PE X (.Call (.Attribute o m apos) (e::es) [] pos) (v5 X.K C m sp E ta t):=by
 obtain⟨Ca,f,fd,h1,h2,h3,h4,h5⟩:=M
 intro pins s σ H Q I ⟨Cb,g1,h⟩
 rw[h1] at g1
 cases g1
 exact CQ he h2 h3 h4 (hr.mono hjk) h5 .nil hx ha d8 hpl ht pins s σ H Q I h
theorem iM {pl:Sem Bool} (M:bE X.prog X.w X.K X.mg X.base CX k C m ps sp) (hx:gM CX X E) (hr:Room j X.A) (he:PE X o ta) (hjk:k≤j:=by decide)
  (ht:eval (.Call (.Attribute o m apos) [] [] pos) X.env=(do
   let ov←eval o X.env
   standAt apos.atName
   let(f,first)←holding [ov] (getMethod ov m pl)
   callWith pos f first (backTo pos (starEach [] X.env)) (backToKw pos (keywordEach [] X.env))):=by rfl):PE X (.Call (.Attribute o m apos) [] [] pos) (v5 X.K C m sp E ta pp):=by
 obtain⟨Ca,f,fd,h1,h2,h3,h4,h5⟩:=M
 intro pins s σ H Q I ⟨Cb,g1,h⟩
 rw[h1] at g1
 cases g1
 exact zL he h2 h3 h4 (hr.mono hjk) h5 .nil hx ht pins s σ H Q I h
theorem GF (M:zt X.prog X.w X.K X.mg X.base CX k C ps sp) (hx:gM CX X E) (hr:Room j X.A) (ha:PA X (e::es) t) (hjk:k+1≤j:=by decide) (hg:Gl X C:=by rfl)
  (hdb:(C==("__debug__":Str))=false:=by decide) (he:starEach (e::es) X.env=(false,eval e X.env)::starEach es X.env:=by rfl) (hpl:(backTo pos (starEach es X.env)).any (·.1)=false:=by rfl):
  PE X (.Call (.Name C p) (e::es) [] pos) (Ba X.K C sp E t):=by
 obtain⟨Ca,f,fd,h1,h2,h3,h4,h5⟩:=M
 intro pins s σ H Q I ⟨Cb,g1,h⟩
 rw[h1] at g1
 cases g1
 exact B7 h3 h4 (hr.mono hjk) hg h2 h5 .nil hx ha hdb he hpl pins s σ H Q I h
end
section
variable {K:PySem.W.Frag} {E:XK} {C m:Str} {F:gX} {n:Nat} {to:TE} {ta:TA} {fo:cB} {fa:kl} {L:List Str}
theorem cz (hc:hV K C L) (ho:eG K E to fo) (ha:zj K E ta fa):eG K E (v5 K C m (eI K n F) E0 to ta) (bi C m F n fo fa):=by
 obtain⟨Ca,hc,_⟩:=hc
 exact fun B σ H α ω ρ Q s sl w=>⟨Ca,hc,yy hc ho ha B σ H α ω ρ Q s sl w⟩
theorem Cn (hc:hV K C L) (ha:zj K E ta fa):eG K E (Ba K C (eI K n F) E0 ta) (qN C F n fa):=by
 obtain⟨Ca,hc,_⟩:=hc
 exact fun B σ H α ω ρ Q s sl w=>⟨Ca,hc,Bx hc ha B σ H α ω ρ Q s sl w⟩
end
end L10
namespace L10
open PySem L2 L3
section
variable {ρ ρ1 ρ2:cg} {ω ω1 ω2 ω3 ω4:bz} {x y z:SV} {i n:Nat} {d dx dy:D} {ds:List D} {b:Bool}
theorem bR (h:ρ[i]? =some (some x)):aF i ρ ω= .ok x ω:=by unfold aF;rw[h]
theorem aj {f:FE} {ρ':aV} (h:f (bW ρ)= .ok (.fz d,ρ')):ai f ρ ω= .ok (.fz d) ω:=by unfold ai;rw[h]
theorem dU {f:FE} {ρ':aV} (h:f (bW ρ)= .ok (.ow ds,ρ')):ai f ρ ω= .ok (.rf ω.length) (ω++[.lst (ds.map .fz)]):=by unfold ai;rw[h];rfl
theorem aU {f:FT} {ρ':aV} (h:f (bW ρ)= .ok (b,ρ')):bM f ρ ω= .ok b ω:=by unfold bM;rw[h]
theorem oM {f:FI} {ρ':aV} (h:f (bW ρ)= .ok (ds,ρ')):mv f ρ ω= .ok ds ω:=by unfold mv;rw[h]
theorem pe {C f:Str} {e:cB} {fs:List (Str×SV)} (he:e ρ ω= .ok (.rf i) ω1) (hc:ω1[i]? =some (.obj C fs)) (hf:fs.lookup f=some x):ci C f e ρ ω= .ok x ω1:=by
 unfold ci
 rw[he,RS.bind_ok]
 dsimp only
 rw[hc]
 dsimp only
 rw[if_pos rfl,hf]
 rfl
theorem dg {f:D→D→Option RV} {fa fb:cB} (ha:fa ρ ω= .ok x ω1) (hb:fb ρ ω1= .ok y ω2) (hf:kA f x y ω2= .ok z ω3):je f fa fb ρ ω= .ok z ω3:=by
 unfold je
 rw[ha,RS.bind_ok,hb,RS.bind_ok,hf]
theorem dj {f:D→D→Option RV} (h:f dx dy=some (.fz d)):kA f (.fz dx) (.fz dy) ω= .ok (.fz d) ω:=by
 unfold kA
 show((RS.ofO ω (f dx dy)).bind fun rv ω1=>jg ω1 rv)=_
 rw[h];rfl
theorem kg {f:D→D→Option RV} (hx:sh ω x=some dx) (hy:sh ω y=some dy) (h:f dx dy=some (.fz d)):kA f x y ω= .ok (.fz d) ω:=by
 unfold kA
 rw[hx,hy]
 show((RS.ofO ω (f dx dy)).bind fun rv ω1=>jg ω1 rv)=_
 rw[h];rfl
theorem Ak {f:D→D→Option RV} (hs:sh ω x=none∨sh ω y=none) (hx:kF 6 ω x=some dx) (hy:kF 6 ω y=some dy) (h:f dx dy=some (.fz d)) (hd:yH d=true):kA f x y ω= .ok (.fz d) ω:=by
 have e:((RS.ofO ω (kF 6 ω x)).bind fun dx ω1=>(RS.ofO ω1 (kF 6 ω1 y)).bind fun dy ω2=>(RS.ofO ω2 (f dx dy)).bind fun rv ω3=>mj ω3 rv)= .ok (.fz d) ω:=by
  rw[hx]
  show((RS.ofO ω (kF 6 ω y)).bind fun dy ω2=>(RS.ofO ω2 (f dx dy)).bind fun rv ω3=>mj ω3 rv)=_
  rw[hy]
  show((RS.ofO ω (f dx dy)).bind fun rv ω3=>mj ω3 rv)=_
  rw[h]
  show(if yH d=true then RS.ok (SV.fz d) ω else RS.bad)=_
  rw[if_pos hd]
 unfold kA
 rcases hs with hs|hs
 ·rw[hs];exact e
 ·rw[hs]
  cases sh ω x<;>exact e
theorem jq:∀ds:List D,aL qS (ds.map .fz)=some ds
 |[]=>rfl
 |d::r=>by
  rw[List.map_cons]
  unfold aL
  rw[jq r];rfl
theorem eh (h:ω[i]? =some (.lst (ds.map .fz))):sh ω (.rf i)=some (.list ds):=by
 unfold sh
 dsimp only
 rw[h]
 dsimp only
 rw[jq];rfl
theorem bj {fa:cB} (h:fa ρ ω= .ok (.fz (.bool b)) ω1):bV fa ρ ω= .ok b ω1:=by unfold bV;rw[h];rfl
theorem dD {fa fb:gZ} {r:RS Bool} (h:fa ρ ω= .ok true ω1) (k:fb ρ ω1=r):g6 fa fb ρ ω=r:=by unfold g6;rw[h,RS.bind_ok,if_pos rfl,k]
theorem c9 {fa fb:gZ} (h:fa ρ ω= .ok false ω1):g6 fa fb ρ ω= .ok false ω1:=by unfold g6;rw[h,RS.bind_ok,if_neg Bool.false_ne_true]
theorem oh {fa fb:gZ} (h:fa ρ ω= .ok true ω1):wC fa fb ρ ω= .ok true ω1:=by unfold wC;rw[h,RS.bind_ok,if_pos rfl]
theorem fP {fa fb:gZ} {r:RS Bool} (h:fa ρ ω= .ok false ω1) (k:fb ρ ω1=r):wC fa fb ρ ω=r:=by unfold wC;rw[h,RS.bind_ok,if_neg Bool.false_ne_true,k]
theorem sB {fa:gZ} (h:fa ρ ω= .ok b ω1):tR fa ρ ω= .ok (!b) ω1:=by unfold tR;rw[h];rfl
theorem y3 {fa fb:cB} {r:RS SV} (h:bV fa ρ ω= .ok true ω1) (k:fb ρ ω1=r):yA fa fb ρ ω=r:=by unfold yA;rw[h,RS.bind_ok,if_pos rfl,k]
theorem yF {fa fb:cB} (h:bV fa ρ ω= .ok false ω1):yA fa fb ρ ω= .ok (.fz (.bool false)) ω1:=by unfold yA;rw[h,RS.bind_ok,if_neg Bool.false_ne_true]
theorem CP {c:gZ} {fa fb:cB} {r:RS SV} (h:c ρ ω= .ok true ω1) (k:fa ρ ω1=r):EJ c fa fb ρ ω=r:=by unfold EJ;rw[h,RS.bind_ok,if_pos rfl,k]
theorem C5 {c:gZ} {fa fb:cB} {r:RS SV} (h:c ρ ω= .ok false ω1) (k:fb ρ ω1=r):EJ c fa fb ρ ω=r:=by unfold EJ;rw[h,RS.bind_ok,if_neg Bool.false_ne_true,k]
theorem aZ:a8 ρ ω= .ok [] ω:=rfl
theorem aD {fa:cB} {fr:kl} {xs:List SV} (ha:fa ρ ω= .ok x ω1) (hr:fr ρ ω1= .ok xs ω2):aB fa fr ρ ω= .ok (x::xs) ω2:=by unfold aB;rw[ha,RS.bind_ok,hr,RS.bind_ok]
theorem l6 {fa:kl} (ha:fa ρ ω= .ok (ds.map .fz) ω1) (hl:ds.length≤1000):gO fa ρ ω= .ok (.fz (.tuple ds)) ω1:=by
 unfold gO
 rw[ha,RS.bind_ok,List.length_map,if_pos hl]
 unfold He
 rw[jq];rfl
theorem z9 {fa:kl} {xs:List SV} {l:List AV} (ha:fa ρ ω= .ok xs ω1) (hl:xs.length≤1000) (h1:aL qS xs=none) (h2:aL Hq xs=some l):gO fa ρ ω= .ok (.tp l) ω1:=by
 unfold gO
 rw[ha,RS.bind_ok,if_pos hl]
 unfold He
 rw[h1]
 dsimp only
 rw[h2];rfl
theorem BE {f:List D→Option RV} {fa:kl} {xs:List SV} (ha:fa ρ ω= .ok xs ω1) (hs:aL (sh ω1) xs=some ds) (h:f ds=some (.fz d)):Dm f fa ρ ω= .ok (.fz d) ω1:=by
 unfold Dm
 rw[ha,RS.bind_ok]
 unfold Eg
 rw[hs]
 show((RS.ofO ω1 (f ds)).bind fun rv ω1=>jg ω1 rv)=_
 rw[h];rfl
theorem vv {F:FN} {fa:kl} (ha:fa ρ ω= .ok (ds.map .fz) ω1) (hn:ds.length=n) (hF:F ds= .ok (.fz d)):ib F n fa ρ ω= .ok (.fz d) ω1:=by
 unfold ib
 rw[ha,RS.bind_ok]
 unfold uK
 rw[List.length_map,if_pos hn,jq]
 dsimp only
 rw[hF];rfl
theorem rz {F:FN} {fa:kl} {es:List D} (ha:fa ρ ω= .ok (ds.map .fz) ω1) (hn:ds.length=n) (hF:F ds= .ok (.ow es)):ib F n fa ρ ω= .ok (.rf ω1.length) (ω1++[.lst (es.map .fz)]):=by
 unfold ib
 rw[ha,RS.bind_ok]
 unfold uK
 rw[List.length_map,if_pos hn,jq]
 dsimp only
 rw[hF];rfl
theorem tT {A:Type} {a:A}:i6 (RS.ok a ω)= .ok a ω:=rfl
theorem Ds {C m:Str} {F:gX} {fo:cB} {fa:kl} {fs:List (Str×SV)} {xs:List SV} (ho:fo ρ ω= .ok (.rf i) ω1) (hc:ω1[i]? =some (.obj C fs)) (hm:fs.lookup m=none) (ha:fa ρ ω1= .ok xs ω2) (hn:(SV.rf i::xs).length=n) (hF:F (.rf i::xs) ω2= .ok x ω3):bi C m F n fo fa ρ ω= .ok x ω3:=by
 have ho2:qU ω1 C m (.rf i)=true:=by
  unfold qU
  dsimp only
  rw[hc]
  dsimp only
  rw[hm,decide_eq_true rfl];rfl
 unfold bi
 rw[ho,RS.bind_ok,if_pos ho2,ha,RS.bind_ok,if_pos hn,hF];rfl
theorem EG {C:Str} {F:gX} {fa:kl} {xs:List SV} (ha:fa ρ ω= .ok xs ω1) (hn:(SV.rf ω1.length::xs).length=n) (hF:F (.rf ω1.length::xs) (ω1++[.obj C []])= .ok (.fz .none) ω2):qN C F n fa ρ ω= .ok (.rf ω1.length) ω2:=by
 unfold qN
 rw[ha,RS.bind_ok]
 unfold xh
 rw[if_pos hn,hF,RS.bind_ok,if_pos (show Ay (.fz .none)=true from rfl)];rfl
theorem dc {fa fb:cB} (ha:fa ρ ω= .ok (.fz dx) ω1) (hb:fb ρ ω1= .ok (.fz dy) ω2) (h:bH dx dy=some (.fz d)):nw fa fb ρ ω= .ok (.fz d) ω2:=by
 unfold nw
 rw[ha,RS.bind_ok,hb,RS.bind_ok]
 exact dj h
theorem rS {fo fe:cB} {xs ys:List SV} (ho:fo ρ ω= .ok (.rf i) ω1) (h1:ω1[i]? =some (.lst xs)) (he:fe ρ ω1= .ok x ω2) (h2:ω2[i]? =some (.lst ys)) (hl:ys.length<1000000):pU fo fe ρ ω= .ok (.fz .none) (ω2.set i (.lst (ys++[x]))):=by
 have e1:jk ω1 (.rf i)=some (i,xs):=by unfold jk;dsimp only;rw[h1]
 have e2:jk ω2 (.rf i)=some (i,ys):=by unfold jk;dsimp only;rw[h2]
 unfold pU
 rw[ho,RS.bind_ok,e1]
 show((fe ρ ω1).bind _)=_
 rw[he,RS.bind_ok,e2]
 show(if ys.length<1000000 then _ else _)=_
 rw[if_pos hl]
theorem jm {kvs:List (bJ×SV)} (h:ω[i]? =some (.dct kvs)):f8 ω (.rf i)=some (i,kvs):=by unfold f8;dsimp only;rw[h]
theorem kj {neg:Bool} {fk fd:cB} {k:bJ} {kvs:List (bJ×SV)} (hk:fk ρ ω= .ok x ω1) (hd:fd ρ ω1= .ok (.rf i) ω2) (h1:pL x=some k) (h2:ω2[i]? =some (.dct kvs)):oi neg fk fd ρ ω= .ok (.fz (.bool ((gU kvs k).isSome !=neg))) ω2:=by
 unfold oi
 rw[hk,RS.bind_ok,hd,RS.bind_ok,h1]
 show((RS.ofO ω2 (f8 ω2 (.rf i))).bind _)=_
 rw[jm h2];rfl
theorem xz {fd fk:cB} {k:bJ} {kvs:List (bJ×SV)} (hd:fd ρ ω= .ok (.rf i) ω1) (hk:fk ρ ω1= .ok x ω2) (h1:pL x=some k) (h2:ω2[i]? =some (.dct kvs)) (h3:gU kvs k=some y):jX fd fk ρ ω= .ok y ω2:=by
 unfold jX
 rw[hd,RS.bind_ok,hk,RS.bind_ok,h1]
 show((RS.ofO ω2 (f8 ω2 (.rf i))).bind _)=_
 rw[jm h2]
 show RS.ofO ω2 (gU kvs k)=_
 rw[h3];rfl
theorem xF {fd fk fv:cB} {k:bJ} {kvs:List (bJ×SV)} (hv:fv ρ ω= .ok y ω1) (hd:fd ρ ω1= .ok (.rf i) ω2) (hk:fk ρ ω2= .ok x ω3) (h1:pL x=some k) (h2:ω3[i]? =some (.dct kvs)) (hl:kvs.length<1000000):qR fd fk fv ρ ω= .ok (.nx ρ) (ω3.set i (.dct (iE kvs k y))):=by
 unfold qR
 rw[hv,RS.bind_ok,hd,RS.bind_ok,hk,RS.bind_ok,h1]
 show((RS.ofO ω3 (f8 ω3 (.rf i))).bind _)=_
 rw[jm h2]
 show(if kvs.length<1000000 then _ else _)=_
 rw[if_pos hl]
theorem x9 {fd fk:cB} {k:bJ} {kvs0 kvs:List (bJ×SV)} (hd:fd ρ ω= .ok (.rf i) ω1) (h0:ω1[i]? =some (.dct kvs0)) (hk:fk ρ ω1= .ok x ω2) (h1:pL x=some k) (h2:ω2[i]? =some (.dct kvs)) (h3:gU kvs k=some y):ra fd fk ρ ω= .ok y (ω2.set i (.dct (kx kvs k))):=by
 unfold ra
 rw[hd,RS.bind_ok,jm h0]
 show((fk ρ ω1).bind _)=_
 rw[hk,RS.bind_ok,h1]
 show((RS.ofO ω2 (f8 ω2 (.rf i))).bind _)=_
 rw[jm h2]
 show((RS.ofO ω2 (gU kvs k)).bind _)=_
 rw[h3];rfl
theorem sr {fd:cB} {kvs:List (bJ×SV)} (hd:fd ρ ω= .ok (.rf i) ω1) (h:ω1[i]? =some (.dct kvs)):mC fd ρ ω= .ok (.rf ω1.length) (ω1++[.lst (kvs.map (·.2))]):=by
 unfold mC
 rw[hd,RS.bind_ok,jm h];rfl
theorem xq {fd:cB} {kvs:List (bJ×SV)} {ns:List Int} (hd:fd ρ ω= .ok (.rf i) ω1) (h:ω1[i]? =some (.dct kvs)) (hk:aL wF (kvs.map (·.1))=some ns) (hl:ns.length<64):jZ fd ρ ω= .ok (.rf ω1.length) (ω1++[.lst ((gH ns).map fun i=>SV.fz (.int i))]):=by
 unfold jZ
 rw[hd,RS.bind_ok,jm h]
 show((RS.ofO ω1 (aL wF (kvs.map (·.1)))).bind _)=_
 rw[hk]
 show(if ns.length<64 then _ else _)=_
 rw[if_pos hl]
theorem BW {fe:cB} {ps:List (bJ×SV)} (he:fe ρ ω= .ok x ω1) (h:rm x=some ps):uD fe ρ ω= .ok (.rf ω1.length) (ω1++[.dct (ja [] ps)]):=by
 unfold uD
 rw[he,RS.bind_ok,h];rfl
variable {fl:FlS} {r:RS FlS}
theorem ff {f g:fu} (h:f ρ ω= .ok (.nx ρ1) ω1) (k:g ρ1 ω1=r):bc f g ρ ω=r:=by unfold bc;rw[h,RS.bind_ok];exact k
theorem lz {f g:fu} (h:f ρ ω= .ok (.rt x) ω1):bc f g ρ ω= .ok (.rt x) ω1:=by unfold bc;rw[h];rfl
theorem hG {c:gZ} {f g:fu} (h:c ρ ω= .ok true ω1) (k:f ρ ω1=r):cY c f g ρ ω=r:=by unfold cY;rw[h,RS.bind_ok,if_pos rfl,k]
theorem ji {c:gZ} {f g:fu} (h:c ρ ω= .ok false ω1) (k:g ρ ω1=r):cY c f g ρ ω=r:=by unfold cY;rw[h,RS.bind_ok,if_neg Bool.false_ne_true,k]
theorem iA {f:cB} (h:f ρ ω= .ok x ω1):gi f ρ ω= .ok (.rt x) ω1:=by unfold gi;rw[h];rfl
theorem k7 {f:cB} (h:f ρ ω= .ok x ω1):cK f ρ ω= .ok (.nx ρ) ω1:=by unfold cK;rw[h];rfl
theorem sL {f:cB} (h:f ρ ω= .ok x ω1) (e:ρ.set i (some x)=ρ1):eA f (fM i) ρ ω= .ok (.nx ρ1) ω1:=by subst e;unfold eA;rw[h];rfl
theorem jz:dh ρ ω= .ok (.nx ρ) ω:=rfl
theorem vA {C f:Str} {fo fe:cB} {fs:List (Str×SV)} (he:fe ρ ω= .ok x ω1) (ho:fo ρ ω1= .ok (.rf i) ω2) (hc:ω2[i]? =some (.obj C fs)) (hl:fs.length<100):gq C f fo fe ρ ω= .ok (.nx ρ) (ω2.set i (.obj C (eK f x fs))):=by
 have e:zo ω2 C (.rf i)=some (i,fs):=by
  unfold zo
  dsimp only
  rw[hc]
  dsimp only
  rw[if_pos rfl]
 unfold gq
 rw[he,RS.bind_ok,ho,RS.bind_ok,e]
 show(if fs.length<100 then _ else _)=_
 rw[if_pos hl]
theorem si {f:cB} (h:f ρ ω= .ok x ω1) (k:frz 4 ω1 x=some (d,ω2)):tJ f ρ ω= .ok (.fz d) ω2:=by
 unfold tJ
 rw[h,RS.bind_ok]
 unfold Fs
 rw[k]
theorem jo {g:fu} {xs:List SV} {N:Nat} (e:xs.map some++List.replicate (N - xs.length) none=ρ) (h:g ρ ω= .ok (.rt x) ω1):fw N g xs ω= .ok x ω1:=by subst e;unfold fw;rw[h];rfl
theorem k6 {g:fu} {xs:List SV} {N:Nat} (e:xs.map some++List.replicate (N - xs.length) none=ρ) (h:g ρ ω= .ok (.nx ρ1) ω1):fw N g xs ω= .ok (.fz .none) ω1:=by subst e;unfold fw;rw[h];rfl
end
end L10
namespace L10
open PySem L2 L3
section
variable {ρ ρ1 ρ2:cg} {ω ω1 ω2 ω3 ω4:bz} {x y z:SV} {i n:Nat} {d dx dy:D} {ds:List D} {b:Bool}
theorem jA {α:Type} {gt:nk} {ft:gZ} {fe:cB} (e:α→D) (f:α→SV) (ω:bz) (I:cg→Prop):∀(xs:List α) (ρ:cg) (acc:List SV),I ρ→acc.length+xs.length≤1000000→(∀x∈xs,∀ρ,I ρ→∃ρ',gt (.fz (e x)) ρ ω= .ok ρ' ω∧ft ρ' ω= .ok true ω∧fe ρ' ω= .ok (f x) ω∧I ρ')→bS gt ft fe (xs.map e) ρ ω acc= .ok (acc++xs.map f) ω
 |[],ρ,acc,_,_,_=>by show RS.ok acc ω=_;rw[List.map_nil,List.append_nil]
 |x::r,ρ,acc,h0,hl,hs=>by
  obtain⟨ρ',h1,h2,h3,h4⟩:=hs x List.mem_cons_self ρ h0
  rw[List.length_cons] at hl
  show((gt (.fz (e x)) ρ ω).bind _)=_
  rw[h1,RS.bind_ok,h2,RS.bind_ok,if_pos rfl,h3,RS.bind_ok,if_pos (by omega),jA e f ω I r ρ' _ h4 (by rw[List.length_append,List.length_singleton];omega) fun y hy=>hs y (List.mem_cons_of_mem _ hy),List.append_assoc]
  rfl
theorem rY {n:Nat} {fj:List Nat} {fi:Du} {gt:nk} {ft:gZ} {fe:cB} {xs:List SV} (hi:fi ρ ω= .ok ds ω1) (hc:bS gt ft fe ds (fS n fj ρ) ω1 []= .ok xs ω2):j8 n fj fi gt ft fe ρ ω= .ok (.rf ω2.length) (ω2++[.lst xs]):=by
 unfold j8
 rw[hi,RS.bind_ok,hc,tT,RS.bind_ok]
theorem rT (m:Nat):∀(ds:List D),mL (frz m) ω (ds.map .fz)=some (ds,ω)
 |[]=>rfl
 |d::r=>by
  rw[List.map_cons]
  unfold mL
  rw[show frz m ω (.fz d)=some (d,ω) by cases m<;>rfl]
  dsimp only
  rw[rT m r]
theorem mW (h:ω[i]? =some (.lst (ds.map .fz))):frz 4 ω (.rf i)=some (.list ds,ω.set i .dead):=by
 unfold frz
 rw[h]
 dsimp only
 rw[rT]
theorem vB {fe:cB} (h:fe ρ ω= .ok (.rf i) ω1) (hl:ω1[i]? =some (.lst (ds.map .fz))):g8 fe ρ ω= .ok ds (ω1.set i .dead):=by
 unfold g8
 rw[h,RS.bind_ok,mW hl]
 rfl
def Gb (N C:cg→bz→Prop) (T:SV→bz→Prop):RS FlS→Prop
 | .ok (.nx ρ) ω=>N ρ ω
 | .ok (.ct ρ) ω=>C ρ ω
 | .ok (.rt v) ω=>T v ω
 |_=>False
structure GoS (r:RS FlS) (N C:cg→bz→Prop) (T:SV→bz→Prop):Prop where
 out:Gb N C T r
variable {f g:fu} {fe:cB} {N C:cg→bz→Prop} {T:SV→bz→Prop}
theorem GoS.eq {r r':RS FlS} (e:r=r') (h:GoS r' N C T):GoS r N C T:=by rw[e];exact h
theorem GoS.imp {r:RS FlS} {N' C':cg→bz→Prop} {T':SV→bz→Prop} (h:GoS r N C T) (hN:∀ρ ω,N ρ ω→N' ρ ω) (hC:∀ρ ω,C ρ ω→C' ρ ω) (hT:∀v ω,T v ω→T' v ω):GoS r N' C' T':=by
 refine⟨?_⟩
 have h:=h.out
 cases r with
 |bad=>exact h
 |er x ω=>exact h
 |ok fl ω=>
  cases fl with
  |nx r=>exact hN _ _ h
  |ct r=>exact hC _ _ h
  |rt v=>exact hT _ _ h
  |bk r=>exact h
theorem iX (h:GoS (f ρ ω) (fun r o=>GoS (g r o) N C T) C T):GoS (bc f g ρ ω) N C T:=by
 refine⟨?_⟩
 have h:=h.out
 unfold bc
 cases q:f ρ ω with
 |bad=>rw[q] at h;exact h.elim
 |er x o=>rw[q] at h;exact h.elim
 |ok fl o=>
  rw[q] at h
  cases fl with
  |nx r=>exact(show GoS (g r o) N C T from h).out
  |ct r=>exact h
  |rt v=>exact h
  |bk r=>exact h.elim
theorem uG {c:gZ} (hc:c ρ ω= .ok b ω1) (ht:b=true→GoS (f ρ ω1) N C T) (hf:b=false→GoS (g ρ ω1) N C T):GoS (cY c f g ρ ω) N C T:=by
 unfold cY
 rw[hc,RS.bind_ok]
 cases b with
 |true=>exact ht rfl
 |false=>exact hf rfl
theorem oN {c:gZ} (hc:c ρ ω= .ok true ω1) (ht:GoS (f ρ ω1) N C T):GoS (cY c f g ρ ω) N C T:=uG hc (fun _=>ht) fun h=>by cases h
theorem eu {c:gZ} (hc:c ρ ω= .ok false ω1) (ht:GoS (g ρ ω1) N C T):GoS (cY c f g ρ ω) N C T:=uG hc (fun h=>by cases h) fun _=>ht
theorem Ar {gt:nk} (he:fe ρ ω= .ok x ω1) (hg:gt x ρ ω1= .ok ρ1 ω2) (h:N ρ1 ω2):GoS (eA fe gt ρ ω) N C T:=by
 refine⟨?_⟩
 unfold eA
 rw[he,RS.bind_ok,hg,RS.bind_ok]
 exact h
theorem lc (he:f ρ ω= .ok (.nx ρ1) ω1) (h:N ρ1 ω1):GoS (f ρ ω) N C T:=⟨by rw[he];exact h⟩
theorem GV (he:f ρ ω= .ok (.rt x) ω1) (h:T x ω1):GoS (f ρ ω) N C T:=⟨by rw[he];exact h⟩
theorem gk (he:fe ρ ω= .ok x ω1) (h:N ρ ω1):GoS (cK fe ρ ω) N C T:=lc (k7 he) h
theorem nX (he:fe ρ ω= .ok x ω1) (h:T x ω1):GoS (gi fe ρ ω) N C T:=GV (iA he) h
theorem CW (h:T (.fz .none) ω):GoS (qI ρ ω) N C T:=⟨h⟩
theorem jH (h:N ρ ω):GoS (dh ρ ω) N C T:=⟨h⟩
theorem cG {gt:nk} (he:fe ρ ω= .ok x ω1) (hg:gt x ρ ω1= .ok ρ1 ω2) (h:GoS (g ρ1 ω2) N C T):GoS (bc (eA fe gt) g ρ ω) N C T:=iX (Ar he hg h)
theorem qJ (he:f ρ ω= .ok (.nx ρ1) ω1) (h:GoS (g ρ1 ω1) N C T):GoS (bc f g ρ ω) N C T:=iX (lc he h)
theorem gI (he:fe ρ ω= .ok x ω1) (h:GoS (g ρ ω1) N C T):GoS (bc (cK fe) g ρ ω) N C T:=iX (gk he h)
theorem uR {c:gZ} {f1 f2:fu} (hc:c ρ ω= .ok b ω1) (ht:b=true→GoS (bc f1 g ρ ω1) N C T) (hf:b=false→GoS (bc f2 g ρ ω1) N C T):GoS (bc (cY c f1 f2) g ρ ω) N C T:=by
 have e:bc (cY c f1 f2) g ρ ω=if b=true then bc f1 g ρ ω1 else bc f2 g ρ ω1:=by
  unfold bc cY
  rw[hc,RS.bind_ok]
  cases b<;>rfl
 refine .eq e ?_
 cases b with
 |true=>exact ht rfl
 |false=>exact hf rfl
theorem iY {c:gZ} {f1 f2:fu} (hc:c ρ ω= .ok true ω1) (ht:GoS (bc f1 g ρ ω1) N C T):GoS (bc (cY c f1 f2) g ρ ω) N C T:=uR hc (fun _=>ht) fun h=>by cases h
theorem dL {c:gZ} {f1 f2:fu} (hc:c ρ ω= .ok false ω1) (ht:GoS (bc f2 g ρ ω1) N C T):GoS (bc (cY c f1 f2) g ρ ω) N C T:=uR hc (fun h=>by cases h) fun _=>ht
theorem Bg (he:fe ρ ω= .ok x ω1) (h:T x ω1):GoS (bc (gi fe) g ρ ω) N C T:=iX (nX he h)
theorem rh (h:T (.fz .none) ω):GoS (bc qI g ρ ω) N C T:=iX (CW h)
theorem dr (h:GoS (g ρ ω) N C T):GoS (bc dh g ρ ω) N C T:=iX (jH h)
theorem lF {f1 f2:fu} (h:GoS (bc f1 (bc f2 g) ρ ω) N C T):GoS (bc (bc f1 f2) g ρ ω) N C T:=by
 refine .eq ?_ h
 unfold bc
 cases f1 ρ ω with
 |bad=>rfl
 |er x o=>rfl
 |ok fl o=>cases fl<;>rfl
theorem wG {gt:nk} {b:fu} (I:Nat→cg→bz→Prop):∀(ds:List D) (k:Nat) (ρ:cg) (ω:bz),I k ρ ω→(∀i d ρ ω,ds[i]? =some d→I (k+i) ρ ω→∃ρ1 ω1,gt (.fz d) ρ ω= .ok ρ1 ω1∧GoS (b ρ1 ω1) (I (k+i+1)) (I (k+i+1)) T)→GoS (ml gt b ds ρ ω) (I (k+ds.length)) C T
 |[],k,ρ,ω,h0,_=>⟨h0⟩
 |d::r,k,ρ,ω,h0,hs=>by
  obtain⟨ρ1,ω1,h1,h2⟩:=hs 0 d ρ ω rfl h0
  have h2:=h2.out
  have rest:∀ρ' ω',I (k+1) ρ' ω'→GoS (ml gt b r ρ' ω') (I (k+(r.length+1))) C T:=fun ρ' ω' h=>by
   have e:k+(r.length+1)=k+1+r.length:=by omega
   rw[e]
   refine wG I r (k+1) ρ' ω' h fun i d' ρ'' ω'' hi hI=> ?_
   have e:k+1+i=k+(i+1):=by omega
   rw[e] at hI⊢
   exact hs (i+1) d' ρ'' ω'' (by simpa using hi) hI
  refine⟨?_⟩
  show Gb _ _ _ ((gt (.fz d) ρ ω).bind _)
  rw[h1,RS.bind_ok]
  cases q:b ρ1 ω1 with
  |bad=>rw[q] at h2;exact h2.elim
  |er x o=>rw[q] at h2;exact h2.elim
  |ok fl o=>
   rw[q] at h2
   cases fl with
   |nx r=>exact(rest _ _ h2).out
   |ct r=>exact(rest _ _ h2).out
   |rt v=>exact h2
   |bk r=>exact h2.elim
theorem BD {fi:Du} {gt:nk} {b:fu} (I:Nat→cg→bz→Prop) (hi:fi ρ ω= .ok ds ω1) (h0:I 0 ρ ω1) (hs:∀i d ρ ω,ds[i]? =some d→I i ρ ω→∃ρ1 ω1,gt (.fz d) ρ ω= .ok ρ1 ω1∧GoS (b ρ1 ω1) (I (i+1)) (I (i+1)) T) (hN:∀ρ' ω',I ds.length ρ' ω'→N ρ' ω'):GoS (uB fi gt b ρ ω) N C T:=by
 have:=wG (C:=C) (T:=T) I ds 0 ρ ω1 h0 (by simpa using hs)
 rw[Nat.zero_add] at this
 refine .eq ?_ (this.imp hN (fun _ _ h=>h) fun _ _ h=>h)
 unfold uB
 rw[hi,RS.bind_ok]
theorem wD {n:Nat} {g:fu} {xs:List SV} (hρ:xs.map some++List.replicate (n - xs.length) none=ρ) (h:GoS (g ρ ω) (fun _ ω'=>T (.fz .none) ω') (fun _ _=>False) T):∃x ω',fw n g xs ω= .ok x ω'∧T x ω':=by
 have h:=h.out
 unfold fw
 rw[hρ]
 cases q:g ρ ω with
 |bad=>rw[q] at h;exact h.elim
 |er x o=>rw[q] at h;exact h.elim
 |ok fl o=>
  rw[q] at h
  cases fl with
  |nx r=>exact⟨_,_,rfl,h⟩
  |ct r=>exact h.elim
  |rt v=>exact⟨_,_,rfl,h⟩
  |bk r=>exact h.elim
theorem gx {n:Nat} {g:fu} {xs:List SV} {v:SV} {W:bz→Prop} (hρ:xs.map some++List.replicate (n - xs.length) none=ρ) (h:GoS (g ρ ω) (fun _ ω'=>SV.fz .none=v∧W ω') (fun _ _=>False) (fun r ω'=>r=v∧W ω')):∃ω',fw n g xs ω= .ok v ω'∧W ω':=by
 obtain⟨x,ω',h1,h2,h3⟩:=wD (T:=fun r ω'=>r=v∧W ω') hρ h
 exact⟨ω',by rw[h1,h2],h3⟩
end
section
variable {B O O':b6} {K:PySem.W.Frag} {E:XK} {H H' H1 H2:Hp} {α α' α1 α2:List Addr} {ω ω' ω1 ω2:bz} {σ:L2.St} {ρ:cg} {v:V}
end
end L10
namespace L10
open PySem PySem.SeqAt PySem.Spec PySem.W PyProof.Rows L2 L3
section
variable {K:PySem.W.Frag} {E:XK}
end
end L10
namespace L10
open PySem PyProof.Rows L2 L3
section
variable {B O O':b6} {K:PySem.W.Frag} {E:XK} {H H' H1 H2:Hp} {α α' α1 α2:List Addr} {ω ω' ω1 ω2:bz} {σ:L2.St} {ρ:cg} {v:V}
end
end L10
namespace L10
open PySem PySem.Spec PyProof.Rows L2 L3
noncomputable def jR (P:Program) (w:World) (d:Addr) (ob:Obj) (kvs:List (bJ×V)):HO:= .ext fun h=>h.get? d=some ob∧kvs.length≤sizeLine∧(d==sysModules)=false∧∃vs,KV kvs vs∧h.DictOf (ce P w) d vs
theorem FY {P:Program} {w:World} {H:Hp} {h:Heap} {d:Addr} {ob:Obj} {kvs:List (bJ×V)} (h1:h.get? d=some ob) (h2:ObjOk P w H' h d (.dK kvs)):ObjOk P w H h d (jR P w d ob kvs):=by
 obtain⟨z,y,vs,r,dd⟩:=h2
 refine⟨⟨h1,z,y,vs,r,dd⟩,⟨ob,h1⟩,?_⟩
 rintro g1 g2 ⟨a,z,y,vs,r,o,es,ep,e,c⟩ k
 exact⟨k _ a,z,y,vs,r,o,es,ep,k _ e,c⟩
noncomputable def Hu (P:Program) (w:World) (d:Addr) (ob:Obj) (kvs:List (bJ×V)):It:=
 ⟨fun i H=>H d=some (jR P w d ob kvs)∧i<kvs.length,fun i H x H'=>H'=H∧∃k,kvs[i]? =some (k,x),fun i H=>H d=some (jR P w d ob kvs)∧kvs.length≤i⟩
theorem zI {κ:Type}:∀{kvs:List (κ×V)} {vs:List (κ×Value)} {i:Nat} {k:κ} {x:V},KV kvs vs→kvs[i]? =some (k,x)→∃u,vs[i]? =some (k,u)∧RelV x u
 |_,_,_,_,_,.nil,e=>by simp at e
 |_,(k',u')::_,0,k,x,.cons h _,e=>by
  simp at e
  subst e
  obtain⟨h1,h2⟩:=h
  dsimp only at h1 h2
  subst h1
  exact⟨_,rfl,h2⟩
 |_,_,i+1,k,x,.cons _ t,e=>by
  obtain⟨u,h1,h2⟩:=zI (i:=i) t (by simpa using e)
  exact⟨u,by simpa using h1,h2⟩
theorem yC {P:Program} {w:World} {K:PySem.W.Frag} {tg:Expr} (d it:Addr) (ob:Obj) (es:Array DictEntry) (ep:Nat) (hob:ob.data= .dict es ep) (kvs:List (bJ×V)):Turn P w K tg (Hu P w d ob kvs) [it] it (fun i h=>h.IsValIter it d i kvs.length ep) where
 mem:=by simp
 obj:=fun i h st b hb=>by
  have e:b=it:=by simpa using hb
  subst e
  obtain⟨o,e,c,d⟩:=st
  exact⟨o,e,fun v z=>by rw[d] at z;cases z⟩
 keep:=fun i h h' st k=>st.at fun o e=>k it (by simp) o e
 item:=by
  intro X hP hw hK hc i pins s σ H E I hf st hg
  subst hP hw hK
  obtain⟨hd,hi⟩:=hg
  obtain⟨⟨h1,z,y,vs,rel,o,es',ep',e,c⟩,_,_⟩:=(show ObjOk X.prog X.w H s.heap d (jR X.prog X.w d ob kvs) from I.hok d _ hd)
  have eo:o=ob:=by rw[h1] at e;cases e;rfl
  subst eo
  obtain⟨c1,c2,c3⟩:=c
  have ee:ep'=ep:=by rw[hob] at c2;cases c2;rfl
  subst ee
  have da:s.heap.DictAt (ce X.prog X.w) d vs ep':=⟨o,es',e,c1,c2,c3⟩
  obtain⟨⟨k,x⟩,hx⟩:∃p,kvs[i]? =some p:=⟨kvs[i],List.getElem?_eq_getElem hi⟩
  obtain⟨u,hu,ru⟩:=zI rel hx
  obtain⟨f0,f1,f2,f3,f4,f5⟩:=hf it (by simp)
  have st:s.heap.IsValIter it d i vs.length ep':=by rw[←rel.length];exact st
  refine wpAny_pyNext_values_item st da hu fun h' st' sb=> ?_
  have I1:Inv X pins σ H {s with heap:=h'}:=I.turned (t':=s.toks) (fun b o hb e=>(sb.2 b hb).trans e) f0 f1 f3 f4 f5
  have st':h'.IsValIter it d (i+1) kvs.length ep':=by rw[rel.length];exact st'
  obtain⟨o',e',c',d'⟩:=id st'
  exact⟨u,rfl,yc (s:={s with heap:=h'}) e' c' d' (by decide) ⟨x,H,I1,ru,⟨rfl,k,hx⟩,st',fun b hb=>(hf b hb).1⟩⟩
 done:=by
  intro X hP hw hK hc i pins s σ H E I hf st hg
  subst hP hw hK
  obtain⟨hd,hi⟩:=hg
  obtain⟨⟨h1,z,y,vs,rel,o,es',ep',e,c⟩,_,_⟩:=(show ObjOk X.prog X.w H s.heap d (jR X.prog X.w d ob kvs) from I.hok d _ hd)
  have eo:o=ob:=by rw[h1] at e;cases e;rfl
  subst eo
  obtain⟨c1,c2,c3⟩:=c
  have ee:ep'=ep:=by rw[hob] at c2;cases c2;rfl
  subst ee
  have da:s.heap.DictAt (ce X.prog X.w) d vs ep':=⟨o,es',e,c1,c2,c3⟩
  obtain⟨f0,f1,f2,f3,f4,f5⟩:=hf it (by simp)
  have hl:=rel.length
  have st:s.heap.IsValIter it d i vs.length ep':=by rw[←rel.length];exact st
  exact wpAny_pyNext_values_end (I.ok.hd hc) st da (List.getElem?_eq_none (by omega)) fun h' eb=>⟨rfl,I.turned (t':=s.toks) (fun b o hb e=>eb b o hb e) f0 f1 f3 f4 f5⟩
 self:=fun _ _ _ _ _ st h=>wpAny_pyIter_valiter st h
def DD (P:Program) (w:World) (tv:TE):TI:=fun σ H R=>tv σ H fun x H1=>∃p d kvs,x= .ref p∧H1 p=some (xL p d)∧H1 d=some (.dK kvs)∧∀ob,R (Hu P w d ob kvs) (bL H1 d (jR P w d ob kvs))
section
variable {X:Cx} {tg:Expr}
theorem Cu {l:Expr} {tl:TE} (hl:PE X l tl):PI X tg l (DD X.prog X.w tl):=by
 intro pins s σ H R I h
 refine dH (hl pins s σ H _ I h) fun v s1 ⟨x,H1,I1,r1,q1⟩=> ?_
 obtain⟨p,d,kvs,e,hp,hd,q⟩:=q1
 subst e
 cases r1
 obtain⟨vw,_,_⟩:ObjOk X.prog X.w H1 s1.heap p (xL p d):=I1.hok p _ hp
 have od:ObjOk X.prog X.w H1 s1.heap d (.dK kvs):=I1.hok d _ hd
 obtain⟨z,y,vs,rel,ob,es,ep,e,c1,c2,c3⟩:=id od
 have da:s1.heap.DictAt (ce X.prog X.w) d vs ep:=⟨ob,es,e,c1,c2,c3⟩
 refine wpAny_pyIter_values vw da ?_
 have k:∀b o,s1.heap.get? b=some o→(s1.heap.push {cls:= .type "dict_valueiterator",data:= .fields #[.ref d,.int 0 0,.int vs.length 0,.int ep 0]}).get? b=some o:=fun b o e=>Heap.get?_push_of_some _ e
 have I2:=I1.kept (t':=s1.toks) k
 have I3:=I2.write (x:=d) (e:=d) (o:=jR X.prog X.w d ob kvs) (t':=s1.toks) (h':=s1.heap.push {cls:= .type "dict_valueiterator",data:= .fields #[.ref d,.int 0 0,.int vs.length 0,.int ep 0]}) (by rw[hd];trivial) (.inl rfl) (fun b u _ e=>e) ⟨ob,k _ _ e⟩ (FY (k _ _ e) (show ObjOk X.prog X.w H1 _ d (.dK kvs) from⟨z,y,vs,rel,ob,es,ep,k _ _ e,c1,c2,c3⟩))
 refine⟨s1.heap.objs.size,[s1.heap.objs.size],_,_,_,rfl,I3,yC d _ ob es ep c2 kvs,⟨_,Heap.get?_push_size _ rfl,rfl,by rw[rel.length];rfl⟩,fun b hb=> ?_,q ob⟩
 have e:b=s1.heap.objs.size:=by simpa using hb
 subst e
 have hn:=I1.hok.fresh (Nat.le_refl s1.heap.objs.size)
 refine I1.fpOk (Nat.le_refl _) ?_
 rw[aX (fun z=>by rw[z,hd] at hn;cases hn)]
 exact hn
def Gw (P:Program) (w:World) (t:TE):TE:=fun σ H Q=>t σ H fun x H1=>∃d ob kvs,H1 d=some (jR P w d ob kvs)∧Q x (bL H1 d (.dK kvs))
theorem Er {l:Expr} {tl:TE} (hl:PE X l tl):PE X l (Gw X.prog X.w tl):=by
 intro pins s σ H Q I h
 refine dH (hl pins s σ H _ I h) fun v s1 ⟨x,H1,I1,r1,d,ob,kvs,hd,q⟩=> ?_
 obtain⟨⟨h1,z,y,vs,rel,dd⟩,_,_⟩:=(show ObjOk X.prog X.w H1 s1.heap d (jR X.prog X.w d ob kvs) from I1.hok d _ hd)
 exact⟨x,_,I1.write (x:=d) (e:=d) (o:= .dK kvs) (t':=s1.toks) (h':=s1.heap) (by rw[hd];trivial) (.inl rfl) (fun b u _ e=>e) ⟨ob,h1⟩ ⟨z,y,vs,rel,dd⟩,r1,q⟩
end
end L10
namespace L10
open PySem PyProof.Rows L2 L3
section
variable {O O':b6} {K:PySem.W.Frag} {H H':Hp} {a b:Addr} {xs:List V} {φ:Heap→Prop}
def C7 (a:Addr) (O:b6) (H:Hp) (O':b6) (H':Hp):Prop:=∀b o,b≠a→H b=some o→¬O b→H' b=some o∧¬O' b
theorem SqLO.evx (hx:H a=some (.ext φ)) (h:SqLO O K H b xs) (e:C7 a O H O' H'):SqLO O' K H' b xs:=by
 obtain⟨h,k⟩:=h
 by_cases z:O b
 ·exact⟨SqLX.same (jG H') (k z),fun _=>k z⟩
 ·rcases h with(h|⟨o,h⟩)|h
  ·obtain⟨h1,h2⟩:=e b _ (fun y=>by rw[y,hx] at h;cases h) h z
   exact⟨.inl (.inl h1),fun y=>absurd y h2⟩
  ·obtain⟨h1,h2⟩:=e b _ (fun y=>by rw[y,hx] at h;cases h) h z
   exact⟨.inl (.inr ⟨o,h1⟩),fun y=>absurd y h2⟩
  ·exact⟨.inr h,fun _=> .inr h⟩
theorem SqTO.evx (hx:H a=some (.ext φ)) (h:SqTO O K H b xs) (e:C7 a O H O' H'):SqTO O' K H' b xs:=by
 obtain⟨h,k⟩:=h
 by_cases z:O b
 ·exact⟨(jG H').tup (k z),fun _=>k z⟩
 ·rcases h with(h|⟨o,h⟩)|h
  ·obtain⟨h1,h2⟩:=e b _ (fun y=>by rw[y,hx] at h;cases h) h z
   exact⟨.inl (.inl h1),fun y=>absurd y h2⟩
  ·obtain⟨h1,h2⟩:=e b _ (fun y=>by rw[y,hx] at h;cases h) h z
   exact⟨.inl (.inr ⟨o,h1⟩),fun y=>absurd y h2⟩
  ·exact⟨.inr h,fun _=> .inr h⟩
mutual
theorem DV.evx (hx:H a=some (.ext φ)) (e:C7 a O H O' H'):∀{v:V} {d:D},L3.DV O K H v d→L3.DV O' K H' v d
 |_,_,.non=> .non
 |_,_,.bl b=> .bl b
 |_,_,.int i=> .int i
 |_,_,.str x=> .str x
 |_,_,.tup h hs=> .tup (SqTO.evx hx h e) (DVs.evx hx e hs)
 |_,_,.lst h hs=> .lst (SqLO.evx hx h e) (DVs.evx hx e hs)
theorem DVs.evx (hx:H a=some (.ext φ)) (e:C7 a O H O' H'):∀{vs:List V} {ds:List D},L3.DVs O K H vs ds→L3.DVs O' K H' vs ds
 |_,_,.nil=> .nil
 |_,_,.cons h hs=> .cons (DV.evx hx e h) (DVs.evx hx e hs)
end
end
section
variable {B O O':b6} {K:PySem.W.Frag} {E:XK} {H H' H1 H2:Hp} {α α' α1 α2:List Addr} {ω ω' ω1 ω2:bz} {σ:L2.St} {ρ:cg} {v:V} {φ:Heap→Prop} {a b:Addr}
theorem AOk.evx {x:AV} (hx:H a=some (.ext φ)) (e:C7 a O H O' H') (h:AOk O K H α v x):AOk O' K H' α v x:=by
 cases x with
 |fz d=>exact DV.evx hx e h
 |rf i=>exact h
theorem VOk.evx {x:SV} (hx:H a=some (.ext φ)) (e:C7 a O H O' H') (h:VOk O K H α v x):VOk O' K H' α v x:=by
 cases x with
 |fz d=>exact DV.evx hx e h
 |rf i=>exact h
 |tp l=>obtain⟨a,xs,h1,h2,h3⟩:=h;exact⟨a,xs,h1,SqTO.evx hx h2 e,Paired.mapP h3 fun _ _ q=>AOk.evx hx e q⟩
theorem COk.evx {c:Cell} (hx:H a=some (.ext φ)) (e:C7 a O H O' H') (ha:∀o,H b=some o→H' b=some o) (h:COk O K H α b c):COk O' K H' α b c:=by
 cases c with
 |lst xs=>obtain⟨vs,h1,h2⟩:=h;exact⟨vs,ha _ h1,Paired.mapP h2 fun _ _ q=>VOk.evx hx e q⟩
 |dct kvs=>obtain⟨ws,h1,h2⟩:=h;exact⟨ws,ha _ h1,Paired.mapP h2 fun _ _ q=>⟨q.1,VOk.evx hx e q.2⟩⟩
 |obj C fs=>obtain⟨Ca,dx,ws,h0,h1,h2⟩:=h;exact⟨Ca,dx,ws,h0,ha _ h1,Paired.mapP h2 fun _ _ q=>⟨q.1,VOk.evx hx e q.2⟩⟩
 |dead=>trivial
theorem Evo.pin {i:Nat} {c:Cell} {o:HO} (ha:α[i]? =some a) (h:ω[i]? =some c) (hc:c≠ .dead):Evo α ω H α (ω.set i .dead) (bL H a o):=
 ⟨fun _ _ h=>h,fun b o' q n=>by
  have z:b≠a:=fun e=>n ⟨i,c,by rw[e];exact ha,h,hc⟩
  rw[aX z];exact q,fun b z=> .inl (ng z)⟩
theorem ln {o:HO} (h:H b≠none):bL H a o b≠none:=by
 by_cases z:b=a
 ·subst z;rw[aO];simp
 ·rw[aX z];exact h
theorem StoOk.pin (s:StoOk B K H α ω) {i:Nat} {c:Cell} {o:HO} (ha:α[i]? =some a) (h:ω[i]? =some c) (hc:c≠ .dead):StoOk B K (bL H a o) α (ω.set i .dead):=by
 have e:Evo α ω H α (ω.set i .dead) (bL H a o):=Evo.pin ha h hc
 refine⟨by rw[List.length_set];exact s.len,s.nd,fun b h=>ln (s.bn b h),s.ba,fun j b h=>ln (s.al j b h),fun j b d h1 h2=> ?_⟩
 rcases cy h2 with⟨rfl,rfl⟩|⟨hne,h2⟩
 ·exact trivial
 ·exact(s.cel j b d h1 h2).ev e.ev e.pre fun u q=>by rw[aX (fun z=>hne (s.nd j i a (by rw[←z];exact h1) ha))];exact q
theorem A5 {i:Nat} {c:Cell} (s:StoOk B K H α ω) (ha:α[i]? =some a) (h:Lv α (ω.set i c) b):b=a∨Lv α ω b:=by
 obtain⟨j,d,h1,h2,h3⟩:=h
 rcases cy h2 with⟨rfl,rfl⟩|⟨_,h2⟩
 ·rw[ha] at h1;cases h1;exact .inl rfl
 ·exact .inr ⟨j,d,h1,h2,h3⟩
theorem BZ {i:Nat} {c:Cell} {o:HO} (s:StoOk B K H α ω) (ha:α[i]? =some a):C7 a (ow B α ω) H (ow B α (ω.set i c)) (bL H a o):=fun b u hb h n=>by
 refine⟨by rw[aX hb];exact h,fun z=> ?_⟩
 rcases z with z|z
 ·exact n (.inl z)
 ·rcases A5 s ha z with z|z
  ·exact hb z
  ·exact n (.inr z)
theorem StoOk.revive (s:StoOk B K H α ω) {i:Nat} {ws:List (bJ×V)} {kvs:List (bJ×SV)} (ha:α[i]? =some a) (hx:H a=some (.ext φ)) (pr:pR (ow B α ω) K H α ws kvs):StoOk B K (bL H a (.dK ws)) α (ω.set i (.dct kvs)):=by
 have e:C7 a (ow B α ω) H (ow B α (ω.set i (.dct kvs))) (bL H a (.dK ws)):=BZ s ha
 refine⟨by rw[List.length_set];exact s.len,s.nd,fun b h=>ln (s.bn b h),s.ba,fun j b h=>ln (s.al j b h),fun j b d h1 h2=> ?_⟩
 rcases cy h2 with⟨rfl,rfl⟩|⟨hne,h2⟩
 ·rw[ha] at h1;cases h1
  exact⟨ws,aO,Paired.mapP pr fun _ _ q=>⟨q.1,VOk.evx hx e q.2⟩⟩
 ·exact(s.cel j b d h1 h2).evx hx e fun u q=>by rw[aX (fun z=>hne (s.nd j i a (by rw[←z];exact h1) ha))];exact q
theorem yU {own:List Str} {fv:List (Str×Nat)} {g:TG} {tc:TT} {te:TE} {gt:nk} {ft:gZ} {fe:cB} {n:Nat} {fj:List Nat} {J:It} {Q:VK} {ds:List D} (hn:own.length=n) (hf:fv.map (·.2)=fj)
  (hg:Ed K E0 g gt) (ht:uh K E0 tc ft) (he:eG K E0 te fe) (s1:StoOk B K H1 α1 ω1) (sl1:SlOk (ow B α1 ω1) K H1 α1 σ ρ) (it:u0 K J (ow B α1 ω1) H1 ds) (w1:WS K E B H1 α1 ω1 (PQ B K Q) ((i6 (bS gt ft fe ds (fS n fj ρ) ω1 [])).bind fun xs ω2=> .ok (.rf ω2.length) (ω2++[.lst xs]))):
  ∀D,H1 D=none→Aa J D (gr own fv σ) g tc te H1 fun H'=>Q (.ref D) H':=by
 intro Dd hD
 have slc:SlOk (ow B α1 ω1) K H1 α1 (gr own fv σ) (fS n fj ρ):=xa hn hf sl1
 cases qr:bS gt ft fe ds (fS n fj ρ) ω1 [] with
 |er x ωf=>rw[qr] at w1;exact w1.elim
 |bad=>rw[qr] at w1;exact w1.elim
 |ok xs ωf=>
  rw[qr] at w1
  have w1:WS K E B H1 α1 ω1 (PQ B K Q) (.ok (.rf ωf.length) (ωf++[.lst xs])):=w1
  have hB:¬B Dd:=fun z=>s1.bn Dd z hD
  have evH:∀{α2:List Addr} {ω2:bz} {H':Hp},Evo α1 ω1 H1 α2 ω2 H'→Ev (ow B α1 ω1) H1 (ow (ck B Dd) α2 ω2) H':=fun e b o h n=>⟨e.kp b o h fun z=>n (.inr z),fun z=>by
   rcases z with(z|z)|z
   ·exact n (.inl z)
   ·rw[z,hD] at h;cases h
   ·exact(e.lv b z).elim (fun q=>n (.inr q)) fun q=>by rw[h] at q;cases q⟩
  refine⟨fun i m σ' H'=>m=ds.length - i∧i≤ds.length∧∃α2 ω2 ρc acc ys,Evo α1 ω1 H1 α2 ω2 H'∧StoOk (ck B Dd) K H' α2 ω2∧SlOk (ow (ck B Dd) α2 ω2) K H' α2 σ' ρc∧H' Dd=some (.lst ys)∧VsOk (ow (ck B Dd) α2 ω2) K H' α2 ys acc∧bS gt ft fe (ds.drop i) ρc ω2 acc= .ok xs ωf,
   ⟨_,rfl,Nat.zero_le _,α1,ω1,fS n fj ρ,[],[],Evo.same (cb hD _),s1.hide hD,?_,aO,.nil,qr⟩,?_⟩
  ·exact⟨slc.1,fun j x hx=>let⟨v,h1,h2⟩:=slc.2 j x hx;⟨v,h1,h2.ev (evH (Evo.same (cb hD _))) fun _ _ h=>h⟩⟩
  ·rintro i m σ2 H2 ⟨rfl,hi,α2,ω2,ρ2,acc,ys,e2,s2,sl2,hy,vy,qP⟩
   obtain⟨go,stop⟩:=it (ow (ck B Dd) α2 ω2) H2 (evH e2) s2.noO
   by_cases hlt:i<ds.length
   ·obtain⟨g1,g2⟩:=go i hlt
    refine .inr ⟨g1,fun σ5 H5=>i+1≤ds.length∧∃α2 ω2 ρc acc ys,Evo α1 ω1 H1 α2 ω2 H5∧StoOk (ck B Dd) K H5 α2 ω2∧SlOk (ow (ck B Dd) α2 ω2) K H5 α2 σ5 ρc∧H5 Dd=some (.lst ys)∧VsOk (ow (ck B Dd) α2 ω2) K H5 α2 ys acc∧bS gt ft fe (ds.drop (i+1)) ρc ω2 acc= .ok xs ωf,
     fun σ5 H5 ⟨h1,h2⟩=>⟨ds.length - (i+1),by omega,rfl,h1,h2⟩,fun x H3 y=> ?_⟩
    obtain⟨s3,d,hd,dv⟩:=g2 x H3 y
    have ed:ds.drop i=d::ds.drop (i+1):=by
     obtain⟨_,q⟩:=List.getElem?_eq_some_iff.mp hd
     rw[List.drop_eq_getElem_cons hlt,q]
    rw[ed] at qP
    unfold bS at qP
    have e3:Evo α2 ω2 H2 α2 ω2 H3:=Evo.same s3
    have kD:∀{αx αy:List Addr} {ωx ωy:bz} {Hx Hy:Hp} {o:HO},StoOk (ck B Dd) K Hx αx ωx→Evo αx ωx Hx αy ωy Hy→Hx Dd=some o→Hy Dd=some o:=fun sx ex h=>ex.kp _ _ h fun⟨i,c,q,_⟩=>sx.ba Dd (.inr rfl) i q
    refine hg (ck B Dd) σ2 H3 α2 ω2 ρ2 x (.fz d) _ (s2.grow s3) (sl2.evo e3) dv ?_
    cases qg:gt (.fz d) ρ2 ω2 with
    |er z ωz=>rw[qg] at qP;cases qP
    |bad=>rw[qg] at qP;cases qP
    |ok ρ4 ω4=>
     rw[qg] at qP
     intro α4 H4 e4 s4 σ4 sl4
     refine ht (ck B Dd) σ4 H4 α4 ω4 ρ4 _ s4 sl4 ?_
     have qP:((ft ρ4 ω4).bind fun b ω2=>if b=true then(fe ρ4 ω2).bind fun x ω3=>(if acc.length<1000000 then bS gt ft fe (ds.drop (i+1)) ρ4 ω3 (acc++[x]) else .bad) else bS gt ft fe (ds.drop (i+1)) ρ4 ω2 acc)= .ok xs ωf:=qP
     cases qt:ft ρ4 ω4 with
     |er z ωz=>rw[qt] at qP;cases qP
     |bad=>rw[qt] at qP;cases qP
     |ok b ω5=>
      rw[qt] at qP
      intro α5 H5 e5 s5
      have sl5:=sl4.evo e5
      have e35:=e3.trans (e4.trans e5)
      cases b with
      |false=>
       have qP:bS gt ft fe (ds.drop (i+1)) ρ4 ω5 acc= .ok xs ωf:=qP
       exact⟨hlt,α5,ω5,ρ4,acc,ys,e2.trans e35,s5,sl5,kD s2 e35 hy,VsOk.evo e35 vy,qP⟩
      |true=>
       have qP:((fe ρ4 ω5).bind fun x ω3=>(if acc.length<1000000 then bS gt ft fe (ds.drop (i+1)) ρ4 ω3 (acc++[x]) else .bad))= .ok xs ωf:=qP
       rw[if_pos rfl]
       refine he (ck B Dd) σ4 H5 α5 ω5 ρ4 _ s5 sl5 ?_
       cases qe:fe ρ4 ω5 with
       |er z ωz=>rw[qe] at qP;cases qP
       |bad=>rw[qe] at qP;cases qP
       |ok x6 ω6=>
        rw[qe] at qP
        intro α6 H6 e6 s6 v6 hv6
        have qP:(if acc.length<1000000 then bS gt ft fe (ds.drop (i+1)) ρ4 ω6 (acc++[x6]) else .bad)= .ok xs ωf:=qP
        by_cases hl6:acc.length<1000000
        ·rw[if_pos hl6] at qP
         have e36:=e35.trans e6
         have hy6:H6 Dd=some (.lst ys):=kD s2 e36 hy
         have vy6:=VsOk.evo e36 vy
         have em:Ev (ow (ck B Dd) α6 ω6) H6 (ow (ck B Dd) α6 ω6) (bL H6 Dd (.lst (ys++[v6]))):=Ev.mut (.inl (.inr rfl)) _
         have sl6:=sl5.evo e6
         refine⟨ys,hy6,qE (by rw[vy6.length];exact hl6),hlt,α6,ω6,ρ4,acc++[x6],ys++[v6],(e2.trans e36).dd hD,s6.hmut hy6,⟨sl6.1,fun j x hx=>let⟨v,h1,h2⟩:=sl6.2 j x hx;⟨v,h1,h2.ev em fun _ _ h=>h⟩⟩,aO,rl (Paired.mapP vy6 fun _ _ r=>r.ev em fun _ _ h=>h) (hv6.ev em fun _ _ h=>h),qP⟩
        ·rw[if_neg hl6] at qP;cases qP
   ·have e:i=ds.length:=by omega
    subst e
    rw[List.drop_eq_nil_of_le (Nat.le_refl _)] at qP
    have qP:RS.ok acc ω2= .ok xs ωf:=qP
    cases qP
    refine .inl ⟨stop,?_⟩
    refine w1 (α2++[Dd]) H2 ⟨fun i a h=>fN (e2.pre i a h),e2.kp,fun b z=>(oZ s2.len z).elim (e2.lv b) fun z=> .inr (by rw[z];exact hD)⟩ (s2.adopt hy vy hB) (.ref Dd) ⟨Dd,by rw[←s2.len];exact bK,rfl⟩
noncomputable def nN (n:Nat) (fj:List Nat) (fd:cB) (gt:nk) (ft:gZ) (fe:cB):cB:=fun ρ ω=>(fd ρ ω).bind fun o ω1=>(RS.ofO ω1 (f8 ω1 o)).bind fun p ω1=>(RS.ofO ω1 (aL qS (p.2.map (·.2)))).bind fun ds ω1=>(i6 (bS gt ft fe ds (fS n fj ρ) (ω1.set p.1 .dead) [])).bind fun xs ω2=> .ok (.rf ω2.length) (List.set (ω2++[Cell.lst xs]) p.1 (Cell.dct p.2))
theorem y8 {P:Program} {wW:World} {own:List Str} {fv:List (Str×Nat)} {td:TE} {g:TG} {tc:TT} {te:TE} {fd:cB} {gt:nk} {ft:gZ} {fe:cB} {n:Nat} {fj:List Nat} (hn:own.length=n) (hf:fv.map (·.2)=fj)
  (hd:eG K E td fd) (hg:Ed K E0 g gt) (ht:uh K E0 tc ft) (he:eG K E0 te fe):eG K E (Gw P wW (qY own fv (DD P wW (FL K "dict" BK td)) g tc te)) (nN n fj fd gt ft fe):=by
 intro B σ H α ω ρ Q s sl w
 refine hd B σ H α ω ρ _ s sl (w.bind.imp fun o α1 ω1 H1 e1 s1 w1 u hu=> ?_)
 obtain⟨⟨i,kvs⟩,q2,w1⟩:=WS.ofO w1
 obtain⟨ds,qd,w1⟩:=WS.ofO w1
 obtain⟨qi,a,ws,ha,rfl,g1,g2⟩:=ip s1 hu q2
 refine⟨.inr (.inr (.inl ⟨rfl,.inl ⟨ws,g1⟩⟩)),a,ws,rfl,rfl,g1,fun p hp=> ?_⟩
 have sm:Same H1 (bL H1 p (xL p a)):=cb hp _
 have s2:=s1.grow sm
 refine⟨p,a,ws,rfl,aO,sm _ _ g1,fun ob=> ?_⟩
 have nd:(Cell.dct kvs)≠ .dead:=by intro z;cases z
 have s3:StoOk B K (bL (bL H1 p (xL p a)) a (jR P wW a ob ws)) α1 (ω1.set i .dead):=s2.pin ha qi nd
 have e3:Evo α1 ω1 H1 α1 (ω1.set i .dead) (bL (bL H1 p (xL p a)) a (jR P wW a ob ws)):=(Evo.same sm).trans (Evo.pin ha qi nd)
 have na:¬ow B α1 (ω1.set i .dead) a:=s2.killed ha
 have dvs:L3.DVs (ow B α1 (ω1.set i .dead)) K (bL (bL H1 p (xL p a)) a (jR P wW a ob ws)) (ws.map (·.2)) ds:=by
  have:=VsOk.evo e3 (nU g2)
  rw[sU qd] at this
  exact vL this
 have hdat:(bL (bL H1 p (xL p a)) a (jR P wW a ob ws)) a=some (jR P wW a ob ws):=aO
 have it:u0 K (Hu P wW a ob ws) (ow B α1 (ω1.set i .dead)) (bL (bL H1 p (xL p a)) a (jR P wW a ob ws)) ds:=by
  intro O' H' e nn
  have h1:=(e a _ hdat na).1
  have hd':=dvs.ev e
  have hl:ws.length=ds.length:=by have:=dvs.length;rwa [List.length_map] at this
  refine⟨fun j hj=>⟨⟨h1,by omega⟩,?_⟩,h1,by omega⟩
  rintro y H'' ⟨rfl,k,hy⟩
  obtain⟨d,q1,q2⟩:=hd'.getV (v:=y) (i:=j) (by rw[List.getElem?_map,hy];rfl)
  exact⟨Same.refl _,d,q1,q2⟩
 refine yU (E:=E) (Q:=fun x H'=>∃d ob kvs,H' d=some (jR P wW d ob kvs)∧Q x (bL H' d (.dK kvs))) hn hf hg ht he s3 ((sl.evo e1).evo e3) it ?_
 dsimp only at w1
 cases qr:bS gt ft fe ds (fS n fj ρ) (ω1.set i .dead) [] with
 |er x ωf=>rw[qr] at w1;exact w1.elim
 |bad=>rw[qr] at w1;exact w1.elim
 |ok xs ωf=>
  rw[qr] at w1
  have w1:WS K E B H1 α1 ω1 (PQ B K Q) (.ok (.rf ωf.length) (List.set (ωf++[Cell.lst xs]) i (Cell.dct kvs))):=w1
  intro α' H' e s' v hv
  have na':¬Lv α1 (ω1.set i .dead) a:=fun z=>na (.inr z)
  have hda:=e.kp a _ hdat na'
  refine⟨a,ob,ws,hda,?_⟩
  have ha':=e.pre i a ha
  have pr:pR (ow B α' (ωf++[.lst xs])) K H' α' ws kvs:=Paired.mapP g2 fun _ _ q=>⟨q.1,(q.2.evo e3).evo e⟩
  have lva:Lv α1 ω1 a:=⟨i,_,ha,qi,nd⟩
  refine w1 α' (bL H' a (.dK ws)) ⟨e.pre,fun b o h nl=> ?_,fun b z=> ?_⟩ (s'.revive ha' hda pr) v hv
  ·have hb:b≠a:=fun z=>nl (by rw[z];exact lva)
   rw[aX hb]
   exact e.kp b o (e3.kp b o h nl) fun z=>nl (ng z)
  ·rcases A5 s' ha' z with rfl|z
   ·exact .inl lva
   ·rcases e.lv b z with z|z
    ·exact .inl (ng z)
    ·refine .inr ?_
     cases q:H1 b with
     |none=>rfl
     |some o=>
      have:=sm b o q
      by_cases hb:b=a
      ·rw[hb,aO] at z;cases z
      ·rw[aX hb,this] at z;cases z
theorem BJ {n i:Nat} {fj:List Nat} {fd:cB} {gt:nk} {ft:gZ} {fe:cB} {xs:List SV} {kvs:List (bJ×SV)} {ds:List D} (h:fd ρ ω= .ok (.rf i) ω1) (hk:ω1[i]? =some (.dct kvs)) (hd:kvs.map (·.2)=ds.map .fz) (hc:bS gt ft fe ds (fS n fj ρ) (ω1.set i .dead) []= .ok xs ω2):nN n fj fd gt ft fe ρ ω= .ok (.rf ω2.length) (List.set (ω2++[Cell.lst xs]) i (Cell.dct kvs)):=by
 unfold nN
 rw[h,RS.bind_ok,jm hk]
 show((RS.ofO ω1 (aL qS (kvs.map (·.2)))).bind _)=_
 rw[hd,jq]
 show((i6 (bS gt ft fe ds (fS n fj ρ) (ω1.set i .dead) [])).bind _)=_
 rw[hc,tT,RS.bind_ok]
end
end L10
namespace PySem
open Sem (wp)
open PyProof.Rows
section
variable {prog:Program} {w:World} {A:Around} {E:Value→Shared→Prop} {s:Shared} {t:Addr} {xs:Array (Int×Tok)}
theorem zU {vs:List Value} {ns:List Int} {Q:Value→Shared→Prop} (hh:A.handled=none) (hl:s.heap.IsList t vs.toArray) (hi:IntsAre vs ns) (hne:0<ns.length)
  (h:∀h' M (u:Tok) tk,(∀b o,s.heap.get? b=some o→h'.get? b=some o)→M∈ns→(∀a,a∈ns→a≤M)→Q (.int M u) {s with heap:=h',toks:=tk}):
  wpAny (model prog w) A (call (.builtin "max") [.ref t]) Q E s:=by
 obtain⟨xs,e⟩:=hi.allInts.items
 have hns:ns=xs.toList.map (·.1):=by
  rw[←hi.numsOf,←nums_intItems,←e]
 have hsz:0<xs.size:=by
  have h3:=hne;rw[hns,List.length_map,Array.length_toList] at h3;exact h3
 rw[e] at hl
 refine max_intList hh hl hsz fun v h' tk hv hk=> ?_
 obtain⟨t,rfl⟩:=intItems_at hv
 obtain⟨h1,h2⟩:=argBest_gt (numAt xs) (xs.size - 1)
 refine h _ _ t tk hk ?_ fun a ha=> ?_
 ·rw[hns,numAt_eq];exact getD_mem (by rw[List.length_map,Array.length_toList];omega)
 ·rw[hns] at ha
  obtain⟨j,hj,rfl⟩:=mem_getD ha
  rw[List.length_map,Array.length_toList] at hj
  rw[←numAt_eq];exact h2 j (by omega)
end
end PySem
namespace L10
open PySem PySem.Spec PyProof.Rows L2 L3
def DS (K:PySem.W.Frag):List V→Hp→VK→Prop:=fun xs H Q=>∃(a:Addr) (ns:List Int),xs=[.ref a]∧SqL K H a (ns.map V.int)∧0<ns.length∧∀M,M∈ns→(∀i,i∈ns→i≤M)→Q (.int M) H
theorem yx {X:Cx} (hc:X.calm=true):CallR X (.builtin "max") (DS X.K):=by
 intro pins s σ H xs us Q I r h
 obtain⟨a,ns,rfl,hx,hn,q⟩:=h
 obtain⟨u,rfl,r1⟩:=iR r
 cases r1
 obtain⟨its,r2,ht,_⟩:=I.list hx
 exact zU (I.ok.hd hc) ht.isList (iw r2) hn fun h' M u tk hk h1 h2=>⟨.int M,H,I.kept hk,⟨_,rfl⟩,q M h1 h2⟩
noncomputable def yh:List D→Option RV
 |[.list ds]=>(match i4 ds with
  |some ns=>if 0<ns.length then some (.fz (.int (vg ns))) else none
  |none=>none)
 |_=>none
theorem BQ {K:PySem.W.Frag}:BO K (DS K) yh:=by
 intro O H xs ds rv Q n hp e q
 unfold yh at e
 split at e
 ·split at e
  ·rename_i ns hs
   split at e
   ·rename_i hn
    cases e
    cases hp with
    |cons h1 h2=>
     cases h2
     obtain⟨a,vs,rfl,g1,g2⟩:=xn h1
     rw[kS g2 hs] at g1
     refine⟨a,ns,rfl,g1.sq,hn,fun M m1 m2=> ?_⟩
     obtain⟨k1,k2⟩:=vE hn
     have:M=vg ns:=Int.le_antisymm (k2 M m1) (m2 _ k1)
     subst this
     exact q.at (.int _)
   ·cases e
  ·cases e
 ·cases e
end L10
namespace M02
inductive Con (E:List (Nat×Nat)) (r0:Nat):Bool→Nat→Prop
 |base:Con E r0 true r0
 |col {r c:Nat}:Con E r0 true r→(r,c)∈E→Con E r0 false c
 |row {r c:Nat}:Con E r0 false c→(r,c)∈E→Con E r0 true r
def has (n c:Nat):Prop:=n.testBit c=true
structure Nums (E:List (Nat×Nat)) (R C:Nat) (ns:List Nat):Prop where
 len:ns.length=R
 lt:∀n∈ns,n<2^C
 own:∀r c,(r,c)∈E→has (ns.getD r 0) c
 snd:∀r,r<R→∀c,has (ns.getD r 0) c→Con E r false c
abbrev NF:=List Nat×List Nat
structure Fine (E:List (Nat×Nat)) (r0:Nat) (s:NF):Prop where
 a:r0∈s.1
 n:∀x∈s.1,Con E r0 true x
 f:∀x∈s.2,Con E r0 false x
 d:s.2.Nodup
 d1:s.1.Nodup
structure FrOk (R C:Nat) (ss:List (Nat×Nat)):Prop where
 r1:1≤R
 r6:R≤6
 c1:1≤C
 c6:C≤6
 l1:1≤ss.length
 l12:ss.length≤12
 nd:ss.Nodup
 inn:∀s∈ss,s.1<R∧s.2<C
end M02
namespace STP
open PySem L2 L3
noncomputable def kr:FS:=(dZ (pO (aW (aY oC (aY bH (ah 0) (pC (.int 2))) (pC .none))) (fX (aY bH (ah 0) (pC (.int 2)))) hZ)
 (fX (iU (L10.Bk 0) (ap (iB 2 [] (kb (aY bH (ah 0) (pC (.int 0)))) (gT 2 (F8 (gN 0) (F8 (gN 1) Hj))) (aW (aY dE (aY bH (ah 1) (pC (.int 0))) (pC (.str "layer")))) (aY bH (ah 1) (pC (.int 1)))) aJ))))
noncomputable def cI:FN:=iJ 1 kr
noncomputable def i8:FS:=(dZ (jU (aY bH (aY bH (aY bH (ah 0) (pC (.int 1))) (ah 1)) (ah 2)) (gN 3))
 (dZ (pO (aW (aY dE (aY bH (ah 3) (pC (.int 0))) (pC (.str "below")))) (fX (aY bH (aY bH (aY bH (ah 0) (pC (.int 1))) (pC (.int 0))) (ah 2))) hZ)
 (fX (ah 3))))
noncomputable def eV:FN:=iJ 4 i8
noncomputable def gQ:FS:=(fX (iB 1 [1] (kb (aY bH (ah 0) (pC (.int 2)))) (gN 0) (aW (iU AX (ap (iB 1 [0] (kb (ah 1)) (gN 0) iZ (aY Cd (ah 0) (aY bH (ah 1) (pC (.int 0))))) aJ))) (ah 0)))
noncomputable def bw:FN:=iJ 2 gQ
noncomputable def ik:FS:=(dZ (sd (kb (aY bH (ah 0) (pC (.int 2)))) (gN 2) (pO (aW (aY dE (iU tF (ap (aY bH (ah 2) (pC (.int 0))) aJ)) (iU L9.gj (ap (ah 1) aJ)))) (fX (aY eW (dG (ap (c8 (ap (pC (.str "letter")) (ap (aY bH (ah 2) (pC (.int 1))) aJ))) aJ)) (aY gz (dG (ap (pC (.tuple [(.str "none")])) aJ)) (aY sW (iU h7 (ap (ah 1) aJ)) (pC (.int 1)))))) hZ))
 (fX (iB 1 [0] (kb (ah 1)) (gN 0) iZ (aY bH (aY bH (aY bH (ah 1) (pC (.int 1))) (pC (.int 0))) (ah 0)))))
noncomputable def dN:FN:=iJ 3 ik
open L10
noncomputable def iC:fu:=(bc (gq "Hand" "bed" (aF 0) (ai (ah 1)))
 (bc (gq "Hand" "acts" (aF 0) (uD (ai (aY bH (ah 2) (pC (.int 0))))))
 (bc (gq "Hand" "waiting" (aF 0) (ai (aY bH (ah 2) (pC (.int 1)))))
 (bc (gq "Hand" "once" (aF 0) (ai (aY bH (ah 2) (pC (.int 2)))))
 (gq "Hand" "sent" (aF 0) (ai (dG aJ)))))))
noncomputable def cQ:gX:=fw 3 iC
noncomputable def j3:fu:=(gi (gO (aB (Dm mI (aB (j8 1 [0] (g8 (jZ (ci "Hand" "acts" (aF 0)))) (fM 0) jj (gO (aB (ai (ah 0)) (aB (jX (ci "Hand" "acts" (aF 1)) (ai (ah 0))) a8)))) a8)) (aB (ci "Hand" "waiting" (aF 0)) (aB (ci "Hand" "once" (aF 0)) a8)))))
noncomputable def bx:gX:=fw 1 j3
noncomputable def gJ:fu:=(gi (yA (je oC (ci "Hand" "waiting" (aF 0)) (ai (pC .none))) (je Cd (ai (ah 1)) (nw (ci "Hand" "waiting" (aF 0)) (ai (pC (.int 0)))))))
noncomputable def bG:gX:=fw 2 gJ
noncomputable def iS:fu:=(gi (je Cd (ai (ah 1)) (mC (ci "Hand" "acts" (aF 0)))))
noncomputable def bA:gX:=fw 2 iS
noncomputable def mi:fu:=(bc (cY (g6 (bM (aW (aY dE (aY bH (ah 2) (pC (.int 0))) (pC (.str "letter"))))) (tR (bV (bi "Hand" "has_act" bA 2 (aF 0) (aB (ai (ah 2)) a8))))) (cK (pU (ci "Hand" "sent" (aF 0)) (ai (c8 (ap (aY bH (ah 2) (pC (.int 1))) (ap (pC (.str "down")) aJ)))))) dh)
 (qR (ci "Hand" "acts" (aF 0)) (ai (ah 1)) (ai (ah 2))))
noncomputable def bt:gX:=fw 3 mi
noncomputable def p7:fu:=(bc (eA (ra (ci "Hand" "acts" (aF 0)) (ai (ah 1))) (fM 2))
 (cY (g6 (bM (aW (aY dE (aY bH (ah 2) (pC (.int 0))) (pC (.str "letter"))))) (tR (bV (bi "Hand" "has_act" bA 2 (aF 0) (aB (ai (ah 2)) a8))))) (cK (pU (ci "Hand" "sent" (aF 0)) (ai (c8 (ap (aY bH (ah 2) (pC (.int 1))) (ap (pC (.str "up")) aJ)))))) dh))
noncomputable def fA:gX:=fw 3 p7
noncomputable def j7:fu:=(bc (eA (nw (ci "Hand" "waiting" (aF 0)) (ai (pC (.int 0)))) (fM 1))
 (bc (eA (nw (ci "Hand" "waiting" (aF 0)) (ai (pC (.int 2)))) (fM 2))
 (bc (gq "Hand" "waiting" (aF 0) (ai (pC .none)))
 (bc (eA (tJ (EJ (bM (aW (aY dE (ah 2) (pC (.tuple [(.str "chord")]))))) (ib dN 2 (aB (ci "Hand" "bed" (aF 0)) (aB (ai (ah 1)) a8))) (ai (dG (ap (c8 (ap (pC (.str "layer")) (ap (aY bH (ah 2) (pC (.int 2))) aJ))) aJ))))) (fM 3))
 (uB (mv (Bt (ap (ah 1) (ap (ah 3) aJ)))) (F5 2 (pi (fM 4) (pi (fM 5) yq))) (cK (bi "Hand" "come" bt 3 (aF 0) (aB (ai (ah 4)) (aB (ai (ah 5)) a8)))))))))
noncomputable def bO:gX:=fw 6 j7
noncomputable def gv:fu:=(bc (cY (wC (bV (je sY (ci "Hand" "waiting" (aF 0)) (ai (pC .none)))) (wC (bV (je mG (nw (ci "Hand" "waiting" (aF 0)) (ai (pC (.int 2)))) (ai (pC (.tuple [(.str "chord")]))))) (bV (je mG (ib cI 1 (aB (bi "Hand" "stands" bx 1 (aF 0) a8) a8)) (ai (pC (.int 0))))))) (gi (ai (pC (.bool false)))) dh)
 (gi (je mG (ib bw 2 (aB (ci "Hand" "bed" (aF 0)) (aB (je eW (nw (ci "Hand" "waiting" (aF 0)) (ai (pC (.int 0)))) (ai (c8 (ap (ah 1) aJ)))) a8))) (ai (dG aJ)))))
noncomputable def cF:gX:=fw 2 gv
noncomputable def f7:fu:=(bc (eA (je eW (nw (ci "Hand" "waiting" (aF 0)) (ai (pC (.int 0)))) (ai (c8 (ap (ah 1) aJ)))) (fM 2))
 (bc (gq "Hand" "waiting" (aF 0) (gO (aB (ai (ah 2)) (aB (nw (ci "Hand" "waiting" (aF 0)) (ai (pC (.int 1)))) (aB (ai (pC (.tuple [(.str "chord")]))) a8)))))
 (cY (bV (je dE (j8 1 [] (g8 (ib bw 2 (aB (ci "Hand" "bed" (aF 0)) (aB (ai (ah 2)) a8)))) (fM 0) jj (ai (iU h7 (ap (aY bH (ah 0) (pC (.int 0))) aJ)))) (ai (dG (ap (iU h7 (ap (ah 2) aJ)) aJ))))) (cK (bi "Hand" "decide" bO 1 (aF 0) a8)) dh)))
noncomputable def cA:gX:=fw 3 f7
noncomputable def lr:fu:=(bc (eA (ib cI 1 (aB (bi "Hand" "stands" bx 1 (aF 0) a8) a8)) (fM 2))
 (bc (eA (ib eV 3 (aB (ci "Hand" "bed" (aF 0)) (aB (ai (ah 2)) (aB (ai (ah 1)) a8)))) (fM 3))
 (bc (eA (ai (aY bH (ah 3) (pC (.int 0)))) (fM 4))
 (bc (cY (bM (aW (aY mU (ah 4) (c8 (ap (pC (.str "layer")) (ap (pC (.str "once")) aJ)))))) (gq "Hand" "once" (aF 0) (ai (pC .none))) dh)
 (cY (bM (aW (aY dE (ah 4) (pC (.str "tap"))))) (gq "Hand" "waiting" (aF 0) (ai (c8 (ap (c8 (ap (ah 1) aJ)) (ap (pC (.int 0)) (ap (ah 3) aJ)))))) (cY (g6 (bM (aW (aY dE (ah 4) (pC (.str "letter"))))) (g6 (bM (aW (aY dE (ah 2) (pC (.int 0))))) (bV (je mG (ib bw 2 (aB (ci "Hand" "bed" (aF 0)) (aB (ai (c8 (ap (ah 1) aJ))) a8))) (ai (dG aJ)))))) (gq "Hand" "waiting" (aF 0) (ai (c8 (ap (c8 (ap (ah 1) aJ)) (ap (pC (.int 0)) (ap (pC (.tuple [(.str "chord")])) aJ)))))) (cY (bM (aW (aY dE (ah 4) (pC (.str "once"))))) (bc (cK (bi "Hand" "come" bt 3 (aF 0) (aB (ai (ah 1)) (aB (ai (pC (.tuple [(.str "none")]))) a8))))
 (gq "Hand" "once" (aF 0) (ai (aY bH (ah 3) (pC (.int 1)))))) (cK (bi "Hand" "come" bt 3 (aF 0) (aB (ai (ah 1)) (aB (ai (ah 3)) a8)))))))))))
noncomputable def dQ:gX:=fw 5 lr
noncomputable def kP:fu:=(bc (cY (wC (bV (oi false (ai (ah 1)) (ci "Hand" "acts" (aF 0)))) (bV (bi "Hand" "is_waiting" bG 2 (aF 0) (aB (ai (ah 1)) a8)))) qI dh)
 (bc (cY (bV (bi "Hand" "makes_chord" cF 2 (aF 0) (aB (ai (ah 1)) a8))) (bc (cK (bi "Hand" "put_to_chord" cA 2 (aF 0) (aB (ai (ah 1)) a8)))
 qI) dh)
 (bc (cY (bV (je oC (ci "Hand" "waiting" (aF 0)) (ai (pC .none)))) (cK (bi "Hand" "decide" bO 1 (aF 0) a8)) dh)
 (cK (bi "Hand" "begin" dQ 2 (aF 0) (aB (ai (ah 1)) a8))))))
noncomputable def eD:gX:=fw 2 kP
noncomputable def j4:fu:=(bc (eA (nw (ci "Hand" "waiting" (aF 0)) (ai (pC (.int 2)))) (fM 2))
 (cY (bM (aW (aY dE (ah 2) (pC (.tuple [(.str "chord")]))))) (cK (bi "Hand" "decide" bO 1 (aF 0) a8)) (bc (gq "Hand" "waiting" (aF 0) (ai (pC .none)))
 (cK (bi "Hand" "come" bt 3 (aF 0) (aB (ai (ah 1)) (aB (ai (c8 (ap (pC (.str "letter")) (ap (aY bH (ah 2) (pC (.int 1))) aJ)))) a8)))))))
noncomputable def dX:gX:=fw 3 j4
noncomputable def md:fu:=(bc (cY (bV (bi "Hand" "is_waiting" bG 2 (aF 0) (aB (ai (ah 1)) a8))) (cK (bi "Hand" "settle" dX 2 (aF 0) (aB (ai (ah 1)) a8))) dh)
 (cY (bV (oi false (ai (ah 1)) (ci "Hand" "acts" (aF 0)))) (cK (bi "Hand" "go" fA 2 (aF 0) (aB (ai (ah 1)) a8))) dh))
noncomputable def eU:gX:=fw 2 md
noncomputable def iW:fu:=(bc (cY (bV (je sY (ci "Hand" "waiting" (aF 0)) (ai (pC .none)))) qI dh)
 (bc (eA (je eW (nw (ci "Hand" "waiting" (aF 0)) (ai (pC (.int 1)))) (ai (pC (.int 1)))) (fM 1))
 (bc (gq "Hand" "waiting" (aF 0) (gO (aB (nw (ci "Hand" "waiting" (aF 0)) (ai (pC (.int 0)))) (aB (ai (ah 1)) (aB (nw (ci "Hand" "waiting" (aF 0)) (ai (pC (.int 2)))) a8)))))
 (cY (bV (je dE (ai (ah 1)) (nw (ci "Hand" "bed" (aF 0)) (ai (pC (.int 3)))))) (cK (bi "Hand" "decide" bO 1 (aF 0) a8)) dh))))
noncomputable def dC:gX:=fw 2 iW
noncomputable def AM:fu:=(bc (eA (qN "Hand" cQ 3 (aB (ai (ah 0)) (aB (ai (ah 1)) a8))) (fM 3))
 (bc (cY (bM (aW (aY dE (aY bH (ah 2) (pC (.int 0))) (pC (.str "turn"))))) (cK (bi "Hand" "wait_on" dC 1 (aF 3) a8)) (cY (bM (aW (aY dE (aY bH (ah 2) (pC (.int 0))) (pC (.str "down"))))) (cK (bi "Hand" "press" eD 2 (aF 3) (aB (ai (aY bH (ah 2) (pC (.int 1)))) a8))) (cK (bi "Hand" "lift" eU 2 (aF 3) (aB (ai (aY bH (ah 2) (pC (.int 1)))) a8)))))
 (gi (gO (aB (ci "Hand" "sent" (aF 3)) (aB (bi "Hand" "stands" bx 1 (aF 3) a8) a8))))))
noncomputable def gS:gX:=fw 4 AM
end STP
local macro_rules| `(tactic|walk_at "px")=> `(tactic|simp only[L3.iJ,L3.dZ,L3.pO,L3.jU,L3.fX,L3.sRetN,L3.pF,L3.hZ,L3.sd,L3.sBreak,L3.sCont,L3.ret_fz,L3.ret_ow,L3.ret_pl,L3.retS_fz,L3.retS_ow,L3.aY,L3.pUn,L3.vH,L3.A1,L3.Ad,L3.pC,L3.iU,L3.gL,L3.c8,L3.dG,L3.aW,L3.pAnd,L3.pOr,L3.pNot,L3.EX,L3.GN,L3.qL,L3.oNone,
 L3.y4,L3.qOr,L3.zd,L3.iZ,L3.aJ,L3.ap,L3.yQ,L3.kb,L3.iEnum,L3.Bu,L3.gN_ow,L3.gN_pl,L3.gT,L3.Hj,L3.F8,L3.gIx,L3.yM,L3.pPop,L3.iB,L3.captL_nil,L3.captL_cons,L3.yV,L3.zv,
 L3.rdD_fz,L3.rdD_ow,L3.rdD_pl,L3.rdS_fz,L3.rdS_ow,L3.toD_fz,L3.toD_ow,L3.toD_pl,L3.toS_fz,L3.toS_ow,L3.rdDs_nil,L3.rdDs_fz,L3.rdDs_pl,L3.toDs_nil,L3.toDs_fz,L3.toDs_pl,L3.settle_fz,L3.settle_ow,L3.settle_pl,L3.uN,L3.xx,L3.asT_tup,L3.asSeq_tup,L3.asSeq_lst,L3.lQ,L3.uv,L3.pv_fz,L3.pv_ow,L3.Res.bind_ok,L3.bh,L3.dF,L3.keepF_fz,L3.keepF_ow,L3.keepF_none,L3.jd,L3.obind_some,
 L3.kK,L3.pG,L3.mI,L3.tF,L3.negD,L3.tj,L3.tr_le,L3.DN,L3.tr_ge,L3.ky,L3.wl,L3.mX,L3.kI,L3.eqD_bool,L3.neD_bool,
 List.map_cons,List.map_nil,List.cons_append,List.nil_append,List.append_nil,List.replicate_succ,List.replicate_zero,List.length_cons,List.length_nil,List.getElem?_cons_zero,List.getElem?_cons_succ,List.set_cons_zero,List.set_cons_succ,Nat.reduceSub,Nat.reduceAdd,Nat.reduceLeDiff,Nat.reduceLT,Nat.zero_add,Nat.sub_self,Nat.zero_le,reduceIte,Option.map_some,Option.map_none,Bool.not_true,Bool.not_false,Bool.false_eq_true,if_true,if_false,ite_true,ite_false])
local macro_rules| `(tactic|walk_at "nm")=> `(tactic|first|((simp only[List.set_cons_zero,List.set_cons_succ]);rfl)|rfl)
local macro_rules| `(tactic|walk_at "evf")=> `(tactic|first|with_reducible assumption|with_reducible exact L3.ky _ _|with_reducible exact L3.wl _ _|with_reducible exact L3.tj _ _|with_reducible exact L3.tr_le _ _|with_reducible exact L3.DN _ _|with_reducible exact L3.tr_ge _ _|with_reducible exact L3.eqD_nd _ _|with_reducible exact L3.neD_nd _ _|with_reducible exact L3.mX _ _|with_reducible exact L3.kI _ _|with_reducible exact L3.eqD_bool _ _|with_reducible exact L3.neD_bool _ _|with_reducible exact L3.eqD_tup _ _|with_reducible exact L3.neD_tup _ _|with_reducible exact L3.sH _ _|with_reducible exact L3.neD_lst _ _|with_reducible exact L3.inD_nds _ _|with_reducible exact L3.ninD_nds _ _|with_reducible exact L3.rL _ _|with_reducible exact L3.ninD_ndt _ _|with_reducible exact L3.bandD_nd _ _|with_reducible exact L3.borD_nd _ _|with_reducible exact L3.shr_nd _ _|with_reducible exact L3.iK|with_reducible exact L3.hX|with_reducible exact L3.pM|with_reducible exact L3.ixl0|with_reducible exact L3.ixl1|with_reducible exact L3.pow18|with_reducible exact L3.kK _|with_reducible exact L3.pG _|(with_reducible rfl))
local macro_rules| `(tactic|walk_at "ev")=> `(tactic|first
 |with_reducible exact L3.bC
 |((with_reducible apply L3.ar);rfl)
 |((with_reducible apply L3.tf);rfl)
 |with_reducible exact L3.cP
 |with_reducible exact L3.ev_onone
 |((with_reducible apply L3.bQ);(·walk_at "ev");(·walk_at "ev");(·rfl);(·rfl);(·walk_at "evf"))
 |((with_reducible apply L3.ev_un);(·walk_at "ev");(·rfl);(·rfl))
 |((with_reducible apply L3.bp);(·walk_at "ev");(·walk_at "ev"))
 |((with_reducible apply L3.eC);(·walk_at "ev");(·rfl))
 |((with_reducible apply L3.iH);(·walk_at "ev");(·rfl);(·first|walk_at "evf"|rfl))
 |((with_reducible apply L3.kq);(·walk_at "ev");(·rfl);(·rfl);(·with_reducible assumption))
 |((with_reducible apply L3.l4);(·walk_at "ev");(·rfl);(·exact Nat.le_of_ble_eq_true rfl))
 |((with_reducible apply L3.sG);(·walk_at "ev");(·rfl);(·exact Nat.le_of_ble_eq_true rfl))
 |((with_reducible apply L3.vp);(·walk_at "ev");(·rfl);(·rfl))
 |((with_reducible apply L3.uW);(·walk_at "ev");(·rfl))
 |((with_reducible apply L3.DH);(·walk_at "ev");(·walk_at "ev");(·walk_at "ev");(·rfl);(·first|with_reducible assumption|rfl))
 |((with_reducible apply L3.sZ);(·walk_at "ev"))
 |((with_reducible apply L3.CO);(·walk_at "ev");(·intro _;walk_at "ev"))
 |((with_reducible apply L3.ev_qor);(·walk_at "ev");(·intro _;walk_at "ev"))
 |((with_reducible apply L3.ev_pnot);(·walk_at "ev"))
 |((with_reducible apply L3.ev_pand);(·walk_at "ev");(·intro _;walk_at "ev"))
 |((with_reducible apply L3.ev_por);(·walk_at "ev");(·intro _;walk_at "ev"))
 |((with_reducible apply L3.Ch);(·walk_at "ev");(·rfl);(·first|with_reducible assumption|rfl))
 |((with_reducible apply L3.kM);(·walk_at "ev");(·rfl);(·rfl))
 |((with_reducible apply L3.ev_ienum);(·walk_at "ev");(·rfl);(·rfl))
 |((with_reducible apply L3.wB);(·rfl);(·walk_at "ev");(·rfl);(·rfl);(·first|with_reducible assumption|(simp only[List.length_nil,List.length_cons,L3.gC] at*;omega));(·walk_at "nm"))
 |((with_reducible apply L3.ev_pop);(·rfl);(·walk_at "ev");(·rfl);(·rfl);(·with_reducible assumption);(·with_reducible assumption);(·with_reducible assumption);(·walk_at "nm"))
 |((with_reducible apply L3.vO);(·walk_at "ev");(·rfl);(·walk_at "nm"))
 |((with_reducible apply L3.xJ);(·walk_at "ev"))
 |((with_reducible apply L3.tD);(·walk_at "ev");(·rfl)))
local macro_rules| `(tactic|walk_at "evb")=> `(tactic|first
 |((with_reducible apply L3.ev_opb);(·walk_at "ev");(·walk_at "ev");(·rfl);(·rfl);(·walk_at "evf"))
 |((with_reducible apply L3.ev_calb);(·walk_at "ev");(·rfl);(·rfl);(·with_reducible assumption))
 |((with_reducible apply L3.ev_cbb);(·walk_at "ev");(·rfl);(·first|walk_at "evf"|rfl))
 |walk_at "ev")
local macro_rules| `(tactic|walk_at "ev")=> `(tactic|first
 |with_reducible assumption
 |((with_reducible apply L3.ev_pand);(·walk_at "ev");(·intro _;walk_at "evb"))
 |((with_reducible apply L3.ev_por);(·walk_at "ev");(·intro _;walk_at "evb"))
 |((with_reducible apply L3.ev_chain);(·walk_at "ev");(·walk_at "ev");(·walk_at "ev");(·rfl);(·rfl);(·rfl);(·walk_at "evf");(·intro _;walk_at "evf"))
 |((with_reducible apply L3.xQ);(·walk_at "ev");(·rfl);(·rfl);(·rfl)))
local macro_rules| `(tactic|walk_at "go")=> `(tactic|first
 |((with_reducible apply L3.iV);(·walk_at "ev");(·rfl);(·walk_at "nm");try walk_at "go")
 |((with_reducible apply L3.gs_drop);(·walk_at "ev");try walk_at "go")
 |((with_reducible apply L3.gs_seq);try walk_at "go")
 |((with_reducible apply L3.jr);try walk_at "go")
 |((with_reducible apply L3.lH);(·walk_at "ev");(·rfl))
 |((with_reducible apply L3.ya);(·walk_at "ev"))
 |((with_reducible apply L3.gl_asg);(·walk_at "ev");(·rfl);(·walk_at "nm"))
 |((with_reducible apply L3.rE);(·walk_at "ev"))
 |((with_reducible apply L3.gp);(·walk_at "ev");(·rfl))
 |((with_reducible apply L3.go_if);(·walk_at "ev"))
 |(with_reducible apply L3.go_next))
local macro_rules| `(tactic|walk_at "evp")=> `(tactic|((apply Eq.trans);(·walk_at "ev");(·rfl)))
local macro_rules| `(tactic|walk_at "sv")=> `(tactic|first
 |with_reducible assumption
 |((with_reducible apply L10.bR);rfl)
 |((with_reducible apply STP.lK);rfl)
 |((with_reducible apply STP.gm);rfl)
 |((with_reducible apply STP.cf);rfl)
 |((with_reducible apply STP.xG);rfl)
 |((with_reducible apply STP.sK);rfl)
 |with_reducible exact L10.aZ
 |((with_reducible apply L10.aD);(·walk_at "sv");(·walk_at "sv"))
 |((with_reducible apply L10.aj);walk_at "ev")
 |((with_reducible apply L10.aU);walk_at "ev")
 |((with_reducible apply L10.dc);(·walk_at "sv");(·walk_at "sv");(·walk_at "evf"))
 |((with_reducible apply L10.dg);(·walk_at "sv");(·walk_at "sv");(·(with_reducible apply L10.dj);walk_at "evf"))
 |((with_reducible apply L10.bj);walk_at "sv")
 |((with_reducible apply L10.sB);walk_at "sv"))
namespace STP
open PySem L2 L3
noncomputable def jN (c:Nat):Str:=⟨#[97+c]⟩
inductive Mn where
 |letter (c:Nat)
 |layer (n:Int)
 |tap (c:Nat) (n:Int)
 |once (n:Int)
 |none
 |below
 deriving DecidableEq
noncomputable def mD:Mn→D
 | .letter c=> .tuple [.str "letter",.str (jN c)]
 | .layer n=> .tuple [.str "layer",.int n]
 | .tap c n=> .tuple [.str "tap",.str (jN c),.int n]
 | .once n=> .tuple [.str "once",.int n]
 | .none=> .tuple [.str "none"]
 | .below=> .tuple [.str "below"]
def VM (L nL:Int):Mn→Prop
 | .letter c=>c<26
 | .layer n=>1≤n∧n<nL
 | .tap c n=>c<26∧1≤n∧n<nL
 | .once n=>1≤n∧n<nL
 | .none=>True
 | .below=>L≠0
noncomputable def Mn.isL:Mn→Bool
 | .letter _=>true
 |_=>false
structure Bd where
 n:Int
 ls:List (List Mn)
 cs:List (List Nat×Nat)
 wt:Int
noncomputable def lu (l:List Mn):D:= .tuple (l.map mD)
noncomputable def f6 (c:List Nat×Nat):D:= .tuple [.tuple (b3 c.1),.str (jN c.2)]
noncomputable def bD (b:Bd):D:= .tuple [.int b.n,.tuple (b.ls.map lu),.tuple (b.cs.map f6),.int b.wt]
def VL (n nL:Int) (ls:List (List Mn)):Prop:=∀(i:Nat) l,ls[i]? =some l→(l.length:Int)=n∧∀m∈l,VM i nL m
noncomputable def GZ (l0:List Mn) (k:Nat):Bool:=(l0[k]?.map Mn.isL).getD false
def VC (l0:List Mn) (c:List Nat×Nat):Prop:=2≤c.1.length∧c.1.Pairwise (·<·)∧(∀k∈c.1,GZ l0 k=true)∧c.2<26
structure VB (b:Bd):Prop where
 n1:1≤b.n
 n5:b.n≤5
 l1:1≤b.ls.length
 l3:b.ls.length≤3
 vl:VL b.n b.ls.length b.ls
 c4:b.cs.length≤4
 vc:∀c∈b.cs,VC (b.ls.headD []) c
 cu:b.cs.Pairwise fun a c=>a.1≠c.1
 w1:1≤b.wt
 w4:b.wt≤4
noncomputable def wn:Mn→Nat
 | .letter _=>0
 | .layer _=>1
 | .tap _ _=>2
 | .once _=>3
 | .none=>4
 | .below=>5
noncomputable def ws:Nat→Str
 |0=> "letter"
 |1=> "layer"
 |2=> "tap"
 |3=> "once"
 |4=> "none"
 |_=> "below"
noncomputable def wd (m:Mn):Str:=ws (wn m)
theorem qk (m:Mn):wn m<6:=by cases m<;>exact Nat.le_of_ble_eq_true rfl
theorem kU (m:Mn):bH (mD m) (.int 0)=some (.fz (.str (wd m))):=by cases m<;>exact iK
theorem DA (m:Mn):PyData.strOk (wd m)=true:=(by decide+kernel:∀i,i<6→PyData.strOk (ws i)=true) _ (qk m)
theorem wY:∀i,i<6→∀j,j<6→(ws i==ws j)=decide (i=j):=by decide+kernel
theorem uE (m:Mn) (j:Nat) (hj:j<6):dE (.str (wd m)) (.str (ws j))=some (.fz (.bool (decide (wn m=j)))):=by
 rw[HH (DA m) ((by decide+kernel:∀i,i<6→PyData.strOk (ws i)=true) j hj)]
 unfold wd
 rw[wY _ (qk m) _ hj]
noncomputable def Mn.isB:Mn→Bool
 | .below=>true
 |_=>false
noncomputable def Mn.isLy:Mn→Bool
 | .layer _=>true
 |_=>false
noncomputable def Mn.isT:Mn→Bool
 | .tap _ _=>true
 |_=>false
noncomputable def Mn.isO:Mn→Bool
 | .once _=>true
 |_=>false
theorem ia (m:Mn):dE (.str (wd m)) (.str "letter")=some (.fz (.bool m.isL)):=(uE m 0 (by decide)).trans (by cases m<;>rfl)
theorem tW (m:Mn):dE (.str (wd m)) (.str "below")=some (.fz (.bool m.isB)):=(uE m 5 (by decide)).trans (by cases m<;>rfl)
theorem t9 (m:Mn):dE (.str (wd m)) (.str "layer")=some (.fz (.bool m.isLy)):=(uE m 1 (by decide)).trans (by cases m<;>rfl)
theorem Eo (m:Mn):dE (.str (wd m)) (.str "tap")=some (.fz (.bool m.isT)):=(uE m 2 (by decide)).trans (by cases m<;>rfl)
theorem De (m:Mn):dE (.str (wd m)) (.str "once")=some (.fz (.bool m.isO)):=(uE m 3 (by decide)).trans (by cases m<;>rfl)
theorem GX (m:Mn):mU (.str (wd m)) (.tuple [.str "layer",.str "once"])=some (.fz (.bool (!(m.isLy||m.isO)))):=by
 have h:∀a:Str,PyData.strOk a=true→mU (.str a) (.tuple [.str "layer",.str "once"])=some (.fz (.bool (!(("layer":Str)==a||("once":Str)==a)))):=fun a ha=>by
  show(if(iL (.str a)&&(PyData.strOk "layer"&&(PyData.strOk "once"&&true)))=true then some (RV.fz (.bool (!(PyData.eqv (.str "layer") (.str a)||(PyData.eqv (.str "once") (.str a)||false))))) else none)=_
  rw[show iL (.str a)=true by unfold iL;rw[show PyData.canLay0 (.str a)=true from ha];rfl,show PyData.strOk "layer"=true by decide+kernel,show PyData.strOk "once"=true by decide+kernel,Bool.or_false]
  rfl
 rw[h _ (DA m)]
 unfold wd
 rw[show(("layer":Str)==ws (wn m))=_ from wY 1 (by decide) _ (qk m),show(("once":Str)==ws (wn m))=_ from wY 3 (by decide) _ (qk m)]
 cases m<;>rfl
def LB:Mn→Prop
 | .letter c=>c<26
 | .tap c _=>c<26
 |_=>True
theorem VM.lb {L nL:Int} {m:Mn} (h:VM L nL m):LB m:=by
 cases m with
 |letter c=>exact h
 |tap c n=>exact h.1
 |_=>trivial
theorem rZ {c:Nat} (h:c<26):PyData.strOk (jN c)=true:=by
 show((#[97+c]:Array Nat).all fun c=>decide (c<0x110000))=true
 simp
 omega
theorem Dx {c d:Nat} (h:jN c=jN d):c=d:=by
 have:(97+c)=97+d:=by
  have h2:=congrArg (fun z:Str=>z.cps.toList) h
  exact List.head_eq_of_cons_eq h2
 omega
theorem tz {m:Mn} (h:LB m):PyData.canLay0 (mD m)=true:=by
 cases m with
 |letter c=>show(PyData.strOk "letter"&&(PyData.strOk (jN c)&&true))=true;rw[rZ h,show PyData.strOk "letter"=true by decide+kernel];rfl
 |layer n=>show(PyData.strOk "layer"&&(true&&true))=true;decide+kernel
 |tap c n=>show(PyData.strOk "tap"&&(PyData.strOk (jN c)&&(true&&true)))=true;rw[rZ h,show PyData.strOk "tap"=true by decide+kernel];rfl
 |once n=>show(PyData.strOk "once"&&(true&&true))=true;decide+kernel
 |none=>show(PyData.strOk "none"&&true)=true;decide+kernel
 |below=>show(PyData.strOk "below"&&true)=true;decide+kernel
theorem xZ {m:Mn} (h:LB m):iL (mD m)=true:=by
 unfold iL
 rw[tz h]
 cases m<;>rfl
noncomputable def mR:Mn→List D
 | .letter c=>[.str (jN c)]
 | .layer n=>[.int n]
 | .tap c n=>[.str (jN c),.int n]
 | .once n=>[.int n]
 | .none=>[]
 | .below=>[]
theorem D4 (m:Mn):mD m= .tuple (.str (wd m)::mR m):=by cases m<;>rfl
theorem G6 (a b:Mn):decide (wd a=wd b)=decide (wn a=wn b):=by
 have h:=wY _ (qk a) _ (qk b)
 unfold wd
 rw[←h]
 rfl
theorem xu (c d:Nat):decide (jN c=jN d)=decide (c=d):=decide_eq_decide.mpr ⟨Dx,fun h=>by rw[h]⟩
theorem EA (a b:Mn) (h:wn a=wn b):PyData.eqvAll (mR a) (mR b)=decide (a=b):=by
 cases a<;>cases b<;>first|cases h|skip
 ·show(decide (jN _=jN _)&&true)=_
  rw[xu,Bool.and_true]
  exact decide_eq_decide.mpr ⟨fun h=>by rw[h],fun h=>by cases h;rfl⟩
 ·show(decide (_=_)&&true)=_
  rw[Bool.and_true]
  exact decide_eq_decide.mpr ⟨fun h=>by rw[h],fun h=>by cases h;rfl⟩
 ·show(decide (jN _=jN _)&&(decide (_=_)&&true))=_
  rw[xu,Bool.and_true,←Bool.decide_and]
  exact decide_eq_decide.mpr ⟨fun h=>by rw[h.1,h.2],fun h=>by cases h;exact⟨rfl,rfl⟩⟩
 ·show(decide (_=_)&&true)=_
  rw[Bool.and_true]
  exact decide_eq_decide.mpr ⟨fun h=>by rw[h],fun h=>by cases h;rfl⟩
 ·rfl
 ·rfl
theorem FM (a b:Mn):PyData.eqv (mD a) (mD b)=decide (a=b):=by
 rw[D4,D4]
 show(decide (wd a=wd b)&&PyData.eqvAll (mR a) (mR b))=_
 rw[G6]
 by_cases h:wn a=wn b
 ·rw[decide_eq_true h,Bool.true_and,EA a b h]
 ·rw[decide_eq_false h,Bool.false_and,decide_eq_false fun z=>h (by rw[z])]
theorem tK:∀{l:List Mn},(∀m∈l,LB m)→PyData.canLayAll0 (l.map mD)=true
 |[],_=>rfl
 |m::r,h=>by
  show(PyData.canLay0 (mD m)&&PyData.canLayAll0 (r.map mD))=true
  rw[tz (h m List.mem_cons_self),tK fun x hx=>h x (List.mem_cons_of_mem _ hx)];rfl
theorem sD (a:Mn):∀l:List Mn,((l.map mD).any fun e=>PyData.eqv e (mD a))=decide (a∈l)
 |[]=>rfl
 |m::r=>by
  rw[List.map_cons,List.any_cons,sD a r,FM,←Bool.decide_or]
  exact decide_eq_decide.mpr (by rw[List.mem_cons];exact⟨fun h=>h.imp (fun z=>z.symm) id,fun h=>h.imp (fun z=>z.symm) id⟩)
theorem B3 {a:Mn} {l:List Mn} (ha:LB a) (hl:∀m∈l,LB m):Cd (mD a) (.list (l.map mD))=some (.fz (.bool (decide (a∈l)))):=by
 show(if(iL (mD a)&&PyData.canLayAll0 (l.map mD))=true then _ else _)=_
 rw[xZ ha,tK hl,Bool.and_self,if_pos rfl,sD]
theorem t8 {a:Mn} {l:List Mn} (ha:LB a) (hl:∀m∈l,LB m):mU (mD a) (.list (l.map mD))=some (.fz (.bool (!decide (a∈l)))):=by
 show(if(iL (mD a)&&PyData.canLayAll0 (l.map mD))=true then _ else _)=_
 rw[xZ ha,tK hl,Bool.and_self,if_pos rfl,sD]
end STP
namespace STP
open PySem L2 L3
theorem xf {α:Type} {gt:FG} {ft:FT} {fe:FE} (e:α→D) (g:α→Option D) (I:aV→Prop) (xs:List α) {ρ:aV} (h0:I ρ) (hl:xs.length≤1000) (hs:∀x∈xs,∀ρ,I ρ→∃ρ',jd gt ft fe (e x) ρ= .ok (g x,ρ')∧I ρ'):pE (eZ gt ft fe (xs.map e) ρ [])= .ok (xs.filterMap g):=by
 have h:∀(xs:List α) (acc:List D) (ρ:aV),I ρ→acc.length+xs.length≤1000→(∀x∈xs,∀ρ,I ρ→∃ρ',jd gt ft fe (e x) ρ= .ok (g x,ρ')∧I ρ')→eZ gt ft fe (xs.map e) ρ acc= .ok (acc++xs.filterMap g):=by
  intro xs
  induction xs with
  |nil=>intro acc ρ _ _ _;show Res.ok acc=_;rw[List.filterMap_nil,List.append_nil]
  |cons x r ih=>
   intro acc ρ hI hl hs
   rw[List.length_cons] at hl
   obtain⟨ρ',h1,h2⟩:=hs x List.mem_cons_self ρ hI
   rw[List.map_cons,oT h1 (by omega)]
   have hle:(acc++(g x).toList).length+r.length≤1000:=by
    rw[List.length_append]
    cases g x with
    |none=>rw[Option.toList_none,List.length_nil];omega
    |some y=>rw[Option.toList_some,List.length_singleton];omega
   rw[ih _ ρ' h2 hle fun y hy=>hs y (List.mem_cons_of_mem _ hy),List.append_assoc]
   cases q:g x with
   |none=>rw[List.filterMap_cons_none q];rfl
   |some y=>rw[List.filterMap_cons_some q];rfl
 rw[h xs [] ρ h0 (by simpa using hl) hs]
 rfl
theorem xp {d:D} {cp:aV} (hc:dF cp=cp):dF (some (PV.fz d)::cp)=some (.fz d)::cp:=by
 show yg _::dF cp=_
 rw[hc];rfl
theorem wJ {α:Type} {ft:FT} {fe:FE} {cp:aV} (e f:α→D) (p:α→Bool) (xs:List α) (hl:xs.length≤1000) (hc:dF cp=cp) (ht:∀x∈xs,ft (some (.fz (e x))::cp)= .ok (p x,some (.fz (e x))::cp)) (he:∀x∈xs,p x=true→fe (some (.fz (e x))::cp)= .ok (.fz (f x),some (.fz (e x))::cp)):pE (eZ (gN 0) ft fe (xs.map e) (none::cp) [])= .ok ((xs.filter p).map f):=by
 rw[xf e (fun x=>if p x=true then some (f x) else none) (fun ρ=>∃o,ρ=o::cp) xs ⟨none,rfl⟩ hl ?_]
 ·congr 1
  clear hl ht he
  induction xs with
  |nil=>rfl
  |cons x r ih=>
   cases q:p x with
   |true=>rw[List.filterMap_cons_some (b:=f x) (by rw[if_pos q]),List.filter_cons_of_pos q,ih];rfl
   |false=>rw[List.filterMap_cons_none (by rw[if_neg (by rw[q];simp)]),List.filter_cons_of_neg (by rw[q];simp),ih]
 ·rintro x hx ρ ⟨o,rfl⟩
  cases q:p x with
  |true=>exact⟨_,BT rfl ((ht x hx).trans (by rw[q])) (he x hx q) rfl (xp hc),_,rfl⟩
  |false=>exact⟨_,Gj rfl ((ht x hx).trans (by rw[q])) (xp hc),_,rfl⟩
theorem vx {α:Type} (xs:List α):xs.filter (fun _=>true)=xs:=List.filter_eq_self.mpr fun _ _=>rfl
theorem xO {α:Type} {fe:FE} {cp:aV} (e f:α→D) (xs:List α) (hl:xs.length≤1000) (hc:dF cp=cp) (he:∀x∈xs,fe (some (.fz (e x))::cp)= .ok (.fz (f x),some (.fz (e x))::cp)):pE (eZ (gN 0) iZ fe (xs.map e) (none::cp) [])= .ok (xs.map f):=by
 rw[wJ e f (fun _=>true) xs hl hc (fun _ _=>rfl) fun x hx _=>he x hx,vx]
theorem tQ {α:Type} (p:α→Bool):∀l:List α,su (l.map fun c=>PyData.bool (p c))=some (l.map p)
 |[]=>rfl
 |c::r=>by
  show(su (r.map fun c=>PyData.bool (p c))).map (p c::·)=_
  rw[tQ p r];rfl
theorem Ap {α:Type} (p:α→Bool) (l:List α):AX [.list (l.map fun c=>PyData.bool (p c))]=some (.fz (.bool (l.all p))):=by
 show(su _).map (fun bs=>RV.fz (.bool (bs.all id)))=_
 rw[tQ]
 show some (RV.fz (.bool _))=_
 rw[List.all_map]
 rfl
theorem iQ:∀ns:List Int,i4 (ns.map PyData.int)=some ns
 |[]=>rfl
 |n::r=>by
  show(i4 (r.map PyData.int)).map (n::·)=_
  rw[iQ r];rfl
abbrev Ac:=Nat→Option Mn
abbrev Wq:=Option (List Nat×Int×Option (Nat×Int))
structure Stn where
 ac:Ac
 wt:Wq
 oc:Option Int
noncomputable def dJ (ac:Ac):List (Nat×Mn):=(List.range 5).filterMap fun k=>(ac k).map fun a=>(k,a)
noncomputable def pD (p:Nat×Mn):D:= .tuple [nd p.1,mD p.2]
noncomputable def me:Option (Nat×Int)→D
 |some (c,n)=>mD (.tap c n)
 |none=> .tuple [.str "chord"]
noncomputable def ii:Wq→D
 |some (ks,a,w)=> .tuple [.tuple (b3 ks),.int a,me w]
 |none=> .none
noncomputable def pJ:Option Int→D
 |some o=> .int o
 |none=> .none
noncomputable def cU (s:Stn):D:= .tuple [.tuple ((dJ s.ac).map pD),ii s.wt,pJ s.oc]
inductive Evn where
 |down (k:Nat)
 |up (k:Nat)
 |turn
noncomputable def cV:Evn→D
 | .down k=> .tuple [.str "down",nd k]
 | .up k=> .tuple [.str "up",nd k]
 | .turn=> .tuple [.str "turn",.int 0]
theorem iu {ac:Ac} {p:Nat×Mn}:p∈dJ ac↔p.1<5∧ac p.1=some p.2:=by
 unfold dJ
 rw[List.mem_filterMap]
 constructor
 ·rintro⟨k,h1,h2⟩
  cases q:ac k with
  |none=>rw[q] at h2;cases h2
  |some a=>rw[q] at h2;cases h2;exact⟨List.mem_range.mp h1,q⟩
 ·rintro⟨h1,h2⟩
  exact⟨p.1,List.mem_range.mpr h1,by rw[h2];rfl⟩
theorem nz (ac:Ac):(dJ ac).length≤5:=List.length_filterMap_le _ _
noncomputable def BP:Nat×Mn→Option Int
 |(_,.layer n)=>some n
 |_=>none
noncomputable def c7 (ac:Ac):Int:=(((dJ ac).filterMap BP).foldl jT none).getD 0
noncomputable def j6 (ac:Ac):Option Int→Int
 |some o=>o
 |none=>c7 ac
theorem Aq (ac:Ac):pE (eZ (gT 2 (F8 (gN 0) (F8 (gN 1) Hj))) (aW (aY dE (aY bH (ah 1) (pC (.int 0))) (pC (.str "layer")))) (aY bH (ah 1) (pC (.int 1))) ((dJ ac).map pD) [none,none] [])= .ok (((dJ ac).filterMap BP).map .int):=by
 rw[xf pD (fun p=>(BP p).map .int) (fun ρ=>∃o1 o2,ρ=[o1,o2]) (dJ ac) ⟨none,none,rfl⟩ (Nat.le_trans (nz ac) (by decide)) ?_,List.map_filterMap]
 rintro⟨k,a⟩ _ ρ ⟨o1,o2,rfl⟩
 have e1:=kU a
 have e2:=t9 a
 have ft:aW (aY dE (aY bH (ah 1) (pC (.int 0))) (pC (.str "layer"))) [some (.fz (nd k)),some (.fz (mD a))]= .ok (a.isLy,[some (.fz (nd k)),some (.fz (mD a))]):=by walk_at "ev"
 refine⟨[some (.fz (nd k)),some (.fz (mD a))],?_,_,_,rfl⟩
 cases a with
 |layer n=>exact BT (ρ1:=[some (.fz (nd k)),some (.fz (mD (.layer n)))]) rfl ft (bQ (rv:= .fz (.int n)) (ar rfl) bC rfl rfl hX) rfl rfl
 |_=>exact Gj rfl ft rfl
theorem nJ (s:Stn):cI [cU s]= .ok (.fz (.int (j6 s.ac s.oc))):=by
 refine km (ρ:=[some (.fz (cU s))]) rfl ?_
 have e2:bH (cU s) (.int 2)=some (.fz (pJ s.oc)):=pM
 have e0:bH (cU s) (.int 0)=some (.fz (.tuple ((dJ s.ac).map pD))):=iK
 unfold kr
 cases q:s.oc with
 |some o=>
  rw[q] at e2
  have e3:oC (pJ (some o)) .none=some (.fz (.bool true)):=rfl
  walk_at "go"
  ·intro _
   exact lH (by walk_at "ev") rfl rfl
  ·intro h;cases h
 |none=>
  rw[q] at e2
  have e3:oC (pJ none) .none=some (.fz (.bool false)):=rfl
  walk_at "go"
  ·intro h;cases h
  ·intro _
   refine jr (gp (pv:= .fz (.int (c7 s.ac))) (rv:= .fz (.int (c7 s.ac))) (iH (rv:= .fz (.int (c7 s.ac))) (ds:=[.list (((dJ s.ac).filterMap BP).map .int)]) (bp (jI (ds:=(dJ s.ac).map pD) (cs:=[]) (by walk_at "ev") rfl (Aq s.ac)) cP) rfl ?_) rfl rfl)
   show(i4 _).map _=_
   rw[iQ]
   rfl
noncomputable def kC (b:Bd) (L k:Nat):Mn:=((b.ls[L]?.getD [])[k]?).getD .none
noncomputable def look (b:Bd) (L:Int) (k:Nat):Mn:=if(kC b L.toNat k).isB=true then kC b 0 k else kC b L.toNat k
section
variable {b:Bd} (vb:VB b)
include vb
theorem A8 {L k:Nat} (hL:L<b.ls.length) (hk:(k:Int)<b.n):∃l,b.ls[L]? =some l∧l[k]? =some (kC b L k):=by
 have h1:=vb.vl L _ (List.getElem?_eq_getElem hL)
 have h2:k<(b.ls[L]).length:=by omega
 refine⟨_,List.getElem?_eq_getElem hL,?_⟩
 unfold kC
 rw[List.getElem?_eq_getElem hL,Option.getD_some,List.getElem?_eq_getElem h2]
 rfl
theorem v7 {L k:Nat} (hL:L<b.ls.length) (hk:(k:Int)<b.n):VM L b.ls.length (kC b L k):=by
 obtain⟨l,h1,h2⟩:=A8 vb hL hk
 exact(vb.vl L l h1).2 _ (List.mem_of_getElem? h2)
theorem tY {L k:Nat} (hL:L<b.ls.length) (hk:(k:Int)<b.n):∃d,bH (.tuple (b.ls.map lu)) (nd L)=some (.fz d)∧bH d (nd k)=some (.fz (mD (kC b L k))):=by
 obtain⟨l,h1,h2⟩:=A8 vb hL hk
 exact⟨lu l,F7 (by rw[List.getElem?_map,h1];rfl),F7 (by rw[List.getElem?_map,h2];rfl)⟩
theorem B8 {L:Int} {k:Nat} (h0:0≤L) (hL:L<b.ls.length) (hk:(k:Int)<b.n):eV [bD b,.int L,nd k]= .ok (.fz (mD (look b L k))):=by
 obtain⟨n,rfl⟩:∃n:Nat,L=(n:Int):=⟨L.toNat,by omega⟩
 have hl:=vb.l1
 obtain⟨d,e2,e3⟩:=tY vb (L:=n) (k:=k) (by omega) hk
 obtain⟨d',e4,e5⟩:=tY vb (L:=0) (k:=k) (by omega) hk
 have e1:bH (bD b) (.int 1)=some (.fz (.tuple (b.ls.map lu))):=hX
 have e6:=kU (kC b n k)
 have e7:=tW (kC b n k)
 have e8:bH (.tuple (b.ls.map lu)) (.int 0)=some (.fz d'):=e4
 have hv:look b (n:Int) k=if(kC b n k).isB=true then kC b 0 k else kC b n k:=rfl
 rw[hv]
 generalize kC b n k=m at e3 e6 e7 hv
 generalize kC b 0 k=m0 at e5 hv
 refine km (ρ:=[some (.fz (bD b)),some (.fz (nd n)),some (.fz (nd k)),none]) rfl ?_
 unfold i8
 walk_at "go"
 ·intro q
  rw[if_pos q]
  exact lH (by walk_at "ev") rfl rfl
 ·intro q
  rw[if_neg (by rw[q];simp)]
  exact jr (gp (pv:= .fz (mD m)) (by walk_at "ev") rfl rfl)
theorem kN {L:Int} {k:Nat} (h0:0≤L) (hL:L<b.ls.length) (hk:(k:Int)<b.n):VM L b.ls.length (look b L k)∧look b L k≠ .below:=by
 have hl:=vb.l1
 have v0:=v7 vb (L:=0) (k:=k) (by omega) hk
 have v:=v7 vb (L:=L.toNat) (k:=k) (by omega) hk
 have n0:kC b 0 k≠ .below:=fun z=>by rw[z] at v0;exact v0 rfl
 rw[Int.toNat_of_nonneg h0] at v
 unfold look
 split
 ·refine⟨?_,n0⟩
  generalize kC b 0 k=m at v0 n0
  cases m with
  |below=>exact absurd rfl n0
  |_=>exact v0
 ·rename_i q
  refine⟨v,fun z=> ?_⟩
  rw[z] at q
  exact q rfl
omit vb in
theorem zx (ks:List Nat) (hk:ks.length≤5) (c:List Nat×Nat):aW (iU AX (ap (iB 1 [0] (kb (ah 1)) (gN 0) iZ (aY Cd (ah 0) (aY bH (ah 1) (pC (.int 0))))) aJ)) [some (.fz (f6 c)),some (.fz (.tuple (b3 ks)))]= .ok (ks.all fun k=>decide (k∈c.1),[some (.fz (f6 c)),some (.fz (.tuple (b3 ks)))]):=by
 have e:pE (eZ (gN 0) iZ (aY Cd (ah 0) (aY bH (ah 1) (pC (.int 0)))) (b3 ks) [none,some (.fz (f6 c))] [])= .ok (ks.map fun k=> .bool (decide (k∈c.1))):=xO nd (fun k=> .bool (decide (k∈c.1))) ks (by omega) rfl fun k _=>by
  have e0:bH (f6 c) (.int 0)=some (.fz (.tuple (b3 c.1))):=iK
  exact bQ (rv:= .fz (.bool (decide (k∈c.1)))) (ar rfl) (by walk_at "ev") rfl rfl (rL _ _)
 exact eC (iH (rv:= .fz (.bool (ks.all fun k=>decide (k∈c.1)))) (ds:=[.list (ks.map fun k=> .bool (decide (k∈c.1)))]) (bp (jI (cs:=[f6 c]) (ds:=b3 ks) (by walk_at "ev") rfl e) cP) rfl (Ap _ _)) rfl
noncomputable def d9 (b:Bd) (ks:List Nat):List (List Nat×Nat):=b.cs.filter fun c=>ks.all fun k=>decide (k∈c.1)
theorem yl {ks:List Nat} (hk:ks.length≤5):bw [bD b,.tuple (b3 ks)]= .ok (.ow ((d9 b ks).map f6)):=by
 have e2:bH (bD b) (.int 2)=some (.fz (.tuple (b.cs.map f6))):=pM
 have h4:=vb.c4
 refine km (ρ:=[some (.fz (bD b)),some (.fz (.tuple (b3 ks)))]) rfl ?_
 unfold gQ
 exact gp (pv:= .ow ((d9 b ks).map f6)) (jI (cs:=[.tuple (b3 ks)]) (ds:=b.cs.map f6) (by walk_at "ev") rfl (wJ f6 f6 (fun c=>ks.all fun k=>decide (k∈c.1)) b.cs (by omega) rfl (fun c _=>zx ks hk c) fun c _ _=>ar rfl)) rfl rfl
noncomputable def kd (ks:List Nat):List Nat:=(gH (ks.map Int.ofNat)).map Int.toNat
omit vb in
theorem nM (ks:List Nat):(kd ks).Perm ks:=by
 have h:=(eR (ks.map Int.ofNat)).map Int.toNat
 rw[List.map_map] at h
 exact h.trans (by rw[show(Int.toNat∘Int.ofNat)=id from funext fun x=>rfl,List.map_id])
omit vb in
theorem B4 (ks:List Nat):(gH (ks.map Int.ofNat)).map PyData.int=b3 (kd ks):=by
 unfold kd b3
 rw[List.map_map]
 refine List.map_congr_left fun x hx=> ?_
 obtain⟨n,_,rfl⟩:=List.mem_map.mp ((eR _).mem_iff.mp hx)
 rfl
omit vb in
theorem wc (ks:List Nat):(kd ks).Pairwise (·≤·):=by
 have h:∀l:List Int,l.Pairwise (·≤·)→(l.map Int.toNat).Pairwise (·≤·):=fun l h=>by
  rw[List.pairwise_map]
  exact h.imp fun h=>by omega
 exact h _ (eE _)
omit vb in
theorem C1 (ks:List Nat):(kd ks).length=ks.length:=(nM ks).length_eq
omit vb in
theorem uc {ks:List Nat} (h:ks.length<64):L9.gj [.tuple (b3 ks)]=some (.ow (b3 (kd ks))):=by
 have e:b3 ks=(ks.map Int.ofNat).map PyData.int:=by rw[List.map_map];rfl
 show(match i4 (b3 ks) with
  |some ns=>if ns.length<64 then some (RV.ow ((gH ns).map .int)) else none
  |none=>none)=_
 rw[e,iQ]
 dsimp only
 rw[if_pos (by rw[List.length_map];exact h),B4]
noncomputable def Gy (b:Bd) (ks:List Nat):List Mn:=match b.cs.find? fun c=>decide (c.1=kd ks) with
 |some c=> .letter c.2::List.replicate (ks.length - 1) .none
 |none=>ks.map (kC b 0)
omit vb in
omit vb in
theorem GI (n:Nat) (d:D):(List.replicate n [d]).flatten=List.replicate n d:=by
 induction n with
 |zero=>rfl
 |succ n ih=>rw[List.replicate_succ,List.flatten_cons,ih];rfl
theorem EC {ks:List Nat} (h1:1≤ks.length) (h5:ks.length≤5) (hk:∀k∈ks,(k:Int)<b.n):dN [bD b,.tuple (b3 ks)]= .ok (.ow ((Gy b ks).map mD)):=by
 have e2:bH (bD b) (.int 2)=some (.fz (.tuple (b.cs.map f6))):=pM
 have e1:bH (bD b) (.int 1)=some (.fz (.tuple (b.ls.map lu))):=hX
 have hl:=vb.l1
 have srt:=uc (ks:=ks) (by omega)
 refine km (ρ:=[some (.fz (bD b)),some (.fz (.tuple (b3 ks))),none]) rfl ?_
 unfold ik
 have rt:∀c:List Nat×Nat,(aY eW (dG (ap (c8 (ap (pC (.str "letter")) (ap (aY bH (ah 2) (pC (.int 1))) aJ))) aJ)) (aY gz (dG (ap (pC (.tuple [(.str "none")])) aJ)) (aY sW (iU h7 (ap (ah 1) aJ)) (pC (.int 1))))) [some (.fz (bD b)),some (.fz (.tuple (b3 ks))),some (.fz (f6 c))]= .ok (.ow ((Mn.letter c.2::List.replicate (ks.length - 1) Mn.none).map mD),[some (.fz (bD b)),some (.fz (.tuple (b3 ks))),some (.fz (f6 c))]):=fun c=>by
  have q1:bH (f6 c) (.int 1)=some (.fz (.str (jN c.2))):=hX
  have q2:gz (.list [.tuple [.str "none"]]) (.int (((b3 ks).length:Int) - 1))=some (.ow (List.replicate (ks.length - 1) (.tuple [.str "none"]))):=by
   rw[gC,show((ks.length:Int) - 1)=((ks.length - 1:Nat):Int) by omega]
   exact(Fr (by omega) (by decide)).trans (by rw[GI])
  have q3:eW (.list [mD (.letter c.2)]) (.list (List.replicate (ks.length - 1) (.tuple [.str "none"])))=some (.ow ((Mn.letter c.2::List.replicate (ks.length - 1) Mn.none).map mD)):=by
   show(if 1+(List.replicate (ks.length - 1) (PyData.tuple [.str "none"])).length≤1000000 then some (RV.ow ([mD (.letter c.2)]++List.replicate (ks.length - 1) (PyData.tuple [.str "none"]))) else none)=_
   rw[List.length_replicate,if_pos (by omega),List.map_cons,List.map_replicate]
   rfl
  exact bQ (dx:= .list [mD (.letter c.2)]) (rv:= .ow ((Mn.letter c.2::List.replicate (ks.length - 1) Mn.none).map mD)) (by walk_at "ev") (bQ (rv:= .ow (List.replicate (ks.length - 1) (.tuple [.str "none"]))) (by walk_at "ev") (bQ (rv:= .fz (.int (((b3 ks).length:Int) - 1))) (by walk_at "ev") bC rfl rfl (wl _ _)) rfl rfl q2) rfl rfl q3
 have loop:∀(cs:List (List Nat×Nat)) (o:Option PV),(∀c,cs.find? (fun c=>decide (c.1=kd ks))=some c→mP (gN 2) (pO (aW (aY dE (iU tF (ap (aY bH (ah 2) (pC (.int 0))) aJ)) (iU L9.gj (ap (ah 1) aJ)))) (fX (aY eW (dG (ap (c8 (ap (pC (.str "letter")) (ap (aY bH (ah 2) (pC (.int 1))) aJ))) aJ)) (aY gz (dG (ap (pC (.tuple [(.str "none")])) aJ)) (aY sW (iU h7 (ap (ah 1) aJ)) (pC (.int 1)))))) hZ) (cs.map f6) [some (.fz (bD b)),some (.fz (.tuple (b3 ks))),o]= .ok (.rt (.ow ((Mn.letter c.2::List.replicate (ks.length - 1) Mn.none).map mD))))∧
   (cs.find? (fun c=>decide (c.1=kd ks))=none→∃o',mP (gN 2) (pO (aW (aY dE (iU tF (ap (aY bH (ah 2) (pC (.int 0))) aJ)) (iU L9.gj (ap (ah 1) aJ)))) (fX (aY eW (dG (ap (c8 (ap (pC (.str "letter")) (ap (aY bH (ah 2) (pC (.int 1))) aJ))) aJ)) (aY gz (dG (ap (pC (.tuple [(.str "none")])) aJ)) (aY sW (iU h7 (ap (ah 1) aJ)) (pC (.int 1)))))) hZ) (cs.map f6) [some (.fz (bD b)),some (.fz (.tuple (b3 ks))),o]= .ok (.nx [some (.fz (bD b)),some (.fz (.tuple (b3 ks))),o'])):=by
  intro cs
  induction cs with
  |nil=>exact fun o=>⟨fun c h=>(by cases h),fun _=>⟨o,rfl⟩⟩
  |cons c r ih=>
   intro o
   have q0:bH (f6 c) (.int 0)=some (.fz (.tuple (b3 c.1))):=iK
   have tst:aW (aY dE (iU tF (ap (aY bH (ah 2) (pC (.int 0))) aJ)) (iU L9.gj (ap (ah 1) aJ))) [some (.fz (bD b)),some (.fz (.tuple (b3 ks))),some (.fz (f6 c))]= .ok (decide (c.1=kd ks),[some (.fz (bD b)),some (.fz (.tuple (b3 ks))),some (.fz (f6 c))]):=
    eC (bQ (rv:= .fz (.bool (decide (c.1=kd ks)))) (iH (rv:= .ow (b3 c.1)) (by walk_at "ev") rfl rfl) (iH (rv:= .ow (b3 (kd ks))) (by walk_at "ev") rfl srt) rfl rfl (sH _ _)) rfl
   rw[List.find?_cons]
   by_cases h:c.1=kd ks
   ·rw[decide_eq_true h] at tst⊢
    refine⟨fun c' hc=> ?_,fun hc=>(by cases hc)⟩
    cases hc
    show((gN 2 (.fz (f6 c)) [some (.fz (bD b)),some (.fz (.tuple (b3 ks))),o]).bind fun ρ1=>_)=_
    rw[Bu,Res.bind_ok]
    show((pO _ _ _ [some (.fz (bD b)),some (.fz (.tuple (b3 ks))),some (.fz (f6 c))]).bind _)=_
    rw[HJ tst,tD (rt c) rfl]
    rfl
   ·rw[decide_eq_false h] at tst⊢
    have st:mP (gN 2) (pO (aW (aY dE (iU tF (ap (aY bH (ah 2) (pC (.int 0))) aJ)) (iU L9.gj (ap (ah 1) aJ)))) (fX (aY eW (dG (ap (c8 (ap (pC (.str "letter")) (ap (aY bH (ah 2) (pC (.int 1))) aJ))) aJ)) (aY gz (dG (ap (pC (.tuple [(.str "none")])) aJ)) (aY sW (iU h7 (ap (ah 1) aJ)) (pC (.int 1)))))) hZ) ((c::r).map f6) [some (.fz (bD b)),some (.fz (.tuple (b3 ks))),o]=mP (gN 2) (pO (aW (aY dE (iU tF (ap (aY bH (ah 2) (pC (.int 0))) aJ)) (iU L9.gj (ap (ah 1) aJ)))) (fX (aY eW (dG (ap (c8 (ap (pC (.str "letter")) (ap (aY bH (ah 2) (pC (.int 1))) aJ))) aJ)) (aY gz (dG (ap (pC (.tuple [(.str "none")])) aJ)) (aY sW (iU h7 (ap (ah 1) aJ)) (pC (.int 1)))))) hZ) (r.map f6) [some (.fz (bD b)),some (.fz (.tuple (b3 ks))),some (.fz (f6 c))]:=by
     show((gN 2 (.fz (f6 c)) [some (.fz (bD b)),some (.fz (.tuple (b3 ks))),o]).bind fun ρ1=>_)=_
     rw[Bu,Res.bind_ok]
     show((pO _ _ _ [some (.fz (bD b)),some (.fz (.tuple (b3 ks))),some (.fz (f6 c))]).bind _)=_
     rw[HE tst]
     rfl
    rw[st]
    exact ih _
 obtain⟨l1,l2⟩:=loop b.cs none
 have fo:kb (aY bH (ah 0) (pC (.int 2))) [some (.fz (bD b)),some (.fz (.tuple (b3 ks))),none]= .ok (b.cs.map f6,[some (.fz (bD b)),some (.fz (.tuple (b3 ks))),none]):=by walk_at "ev"
 unfold Gy
 cases q:b.cs.find? fun c=>decide (c.1=kd ks) with
 |some c=>exact .eq (Am ((vJ fo).trans (l1 c q))) ⟨rfl⟩
 |none=>
  obtain⟨o',l2⟩:=l2 q
  refine .eq (zw ((vJ fo).trans l2)) ?_
  refine gp (pv:= .ow ((ks.map (kC b 0)).map mD)) (jI (cs:=[bD b]) (ds:=b3 ks) (by walk_at "ev") rfl ?_) rfl rfl
  rw[List.map_map]
  refine xO nd (mD∘kC b 0) ks (by omega) rfl fun k hk'=> ?_
  obtain⟨d,q1,q2⟩:=tY vb (L:=0) (k:=k) (by omega) (hk k hk')
  have q1:bH (.tuple (b.ls.map lu)) (.int 0)=some (.fz d):=q1
  exact bQ (rv:= .fz (mD (kC b 0 k))) (by walk_at "ev") (ar rfl) rfl rfl q2
end
end STP
namespace STP
open PySem L2 L3
open L10
noncomputable def fU (p:Nat×Mn):bJ×SV:=(.inl (p.1:Int),.fz (mD p.2))
noncomputable def eX (ac:Ac) (k:Nat) (o:Option Mn):Ac:=fun j=>if j=k then o else ac j
theorem eJ {ac:Ac} {k:Nat} {o:Option Mn}:eX ac k o k=o:=by unfold eX;rw[if_pos rfl]
theorem fV {ac:Ac} {k j:Nat} {o:Option Mn} (h:j≠k):eX ac k o j=ac j:=by unfold eX;rw[if_neg h]
theorem Bl (ac:Ac):(dJ ac).Pairwise fun p q=>p.1<q.1:=by
 unfold dJ
 refine List.Pairwise.filterMap _ (fun a a' h p hp q hq=> ?_) (List.pairwise_lt_range (n:=5))
 cases e:ac a with
 |none=>rw[e] at hp;cases hp
 |some x=>
  cases e':ac a' with
  |none=>rw[e'] at hq;cases hq
  |some y=>
   rw[e] at hp
   rw[e'] at hq
   cases hp
   cases hq
   exact h
theorem on (ac:Ac):((dJ ac).map (·.1)).Nodup:=by
 rw[List.Nodup,List.pairwise_map]
 exact(Bl ac).imp fun h=>Nat.ne_of_lt h
theorem yk {l:List (Nat×Mn)} (h:(l.map (·.1)).Nodup):l.Nodup:=by
 rw[List.Nodup,List.pairwise_map] at h
 exact h.imp fun h e=>h (by rw[e])
theorem oB {l:List (Nat×Mn)} {ac:Ac} (h:(l.map (·.1)).Nodup) (hm:∀p,p∈l↔p.1<5∧ac p.1=some p.2):l.Perm (dJ ac):=
 (List.perm_ext_iff_of_nodup (yk h) (yk (on ac))).mpr fun p=>(hm p).trans iu.symm
section
variable {ps:List (Nat×Mn)} {ac:Ac} (hp:ps.Perm (dJ ac))
include hp
theorem fZ {p:Nat×Mn}:p∈ps↔p.1<5∧ac p.1=some p.2:=hp.mem_iff.trans iu
theorem zT:(ps.map (·.1)).Nodup:=(hp.map (·.1)).nodup_iff.mpr (on ac)
theorem oz:ps.length≤5:=by rw[hp.length_eq];exact nz ac
theorem gK {k:Nat} (hk:k<5):gU (ps.map fU) (.inl (k:Int))=(ac k).map fun a=>SV.fz (mD a):=by
 unfold gU
 cases q:(ps.map fU).find? fun kv=>decide (kv.1=(.inl (k:Int):bJ)) with
 |none=>
  cases e:ac k with
  |none=>rfl
  |some a=>
   have:=List.find?_eq_none.mp q (fU (k,a)) (List.mem_map.mpr ⟨(k,a),(fZ hp).mpr ⟨hk,e⟩,rfl⟩)
   exact absurd (decide_eq_true rfl) this
 |some kv=>
  obtain⟨p,h1,rfl⟩:=List.mem_map.mp (List.mem_of_find?_eq_some q)
  have h2:=of_decide_eq_true (List.find?_some (p:=fun kv:bJ×SV=>decide (kv.1=(.inl (k:Int):bJ))) q)
  have h3:p.1=k:=by
   have:=Sum.inl.inj h2
   omega
  rw[←h3,((fZ hp).mp h1).2]
  rfl
theorem wK {k:Nat} {a:Mn} (hk:k<5):∃qs:List (Nat×Mn),iE (ps.map fU) (.inl (k:Int)) (.fz (mD a))=qs.map fU∧qs.Perm (dJ (eX ac k (some a))):=by
 unfold iE
 have ek:∀p:Nat×Mn,((fU p).1=(.inl (k:Int):bJ))↔p.1=k:=fun p=>⟨fun h=>by have:=Sum.inl.inj h;omega,fun h=>by rw[←h];rfl⟩
 split
 ·rename_i h
  refine⟨ps.map fun p=>if p.1=k then(k,a) else p,?_,oB ?_ fun p=> ?_⟩
  ·rw[List.map_map,List.map_map]
   refine List.map_congr_left fun p _=> ?_
   show(if(fU p).1=(.inl (k:Int):bJ) then((fU p).1,SV.fz (mD a)) else fU p)=fU (if p.1=k then(k,a) else p)
   by_cases e:p.1=k
   ·rw[if_pos ((ek p).mpr e),if_pos e,(ek p).mpr e];rfl
   ·rw[if_neg (fun z=>e ((ek p).mp z)),if_neg e]
  ·rw[List.map_map,show ps.map ((·.1)∘fun p:Nat×Mn=>if p.1=k then(k,a) else p)=ps.map (·.1) from List.map_congr_left fun p _=>by
    show(if p.1=k then(k,a) else p).1=p.1
    split
    ·rename_i e;exact e.symm
    ·rfl]
   exact zT hp
  ·obtain⟨q0,hq0,hq1⟩:=List.any_eq_true.mp h
   obtain⟨p0,h0,rfl⟩:=List.mem_map.mp hq0
   have h1:p0.1=k:=(ek p0).mp (of_decide_eq_true hq1)
   rw[List.mem_map]
   constructor
   ·rintro⟨r,hr,rfl⟩
    split
    ·exact⟨hk,eJ⟩
    ·rename_i e
     have:=(fZ hp).mp hr
     exact⟨this.1,by rw[fV e];exact this.2⟩
   ·rintro⟨h2,h3⟩
    by_cases e:p.1=k
    ·rw[e,eJ] at h3
     refine⟨p0,h0,?_⟩
     rw[if_pos h1,←e,Option.some.inj h3]
    ·rw[fV e] at h3
     exact⟨p,(fZ hp).mpr ⟨h2,h3⟩,by rw[if_neg e]⟩
 ·rename_i h
  have hn:∀p∈ps,p.1≠k:=fun p hp' e=>h (List.any_eq_true.mpr ⟨fU p,List.mem_map.mpr ⟨p,hp',rfl⟩,decide_eq_true ((ek p).mpr e)⟩)
  refine⟨ps++[(k,a)],by rw[List.map_append];rfl,oB ?_ fun p=> ?_⟩
  ·rw[List.map_append,List.nodup_append]
   refine⟨zT hp,List.nodup_cons.mpr ⟨List.not_mem_nil,List.nodup_nil⟩,fun x hx y hy=> ?_⟩
   obtain⟨p,h1,rfl⟩:=List.mem_map.mp hx
   rw[List.mem_singleton.mp hy]
   exact hn p h1
  ·rw[List.mem_append,List.mem_singleton]
   constructor
   ·rintro(h1|rfl)
    ·have:=(fZ hp).mp h1
     exact⟨this.1,by rw[fV (hn p h1)];exact this.2⟩
    ·exact⟨hk,eJ⟩
   ·rintro⟨h1,h2⟩
    by_cases e:p.1=k
    ·rw[e,eJ] at h2
     exact .inr (by rw[←e,Option.some.inj h2])
    ·rw[fV e] at h2
     exact .inl ((fZ hp).mpr ⟨h1,h2⟩)
theorem t6 {k:Nat}:∃qs:List (Nat×Mn),kx (ps.map fU) (.inl (k:Int))=qs.map fU∧qs.Perm (dJ (eX ac k none)):=by
 have ek:∀p:Nat×Mn,((fU p).1=(.inl (k:Int):bJ))↔p.1=k:=fun p=>⟨fun h=>by have:=Sum.inl.inj h;omega,fun h=>by rw[←h];rfl⟩
 refine⟨ps.filter fun p=>decide (p.1≠k),?_,oB ?_ fun p=> ?_⟩
 ·unfold kx
  rw[List.filter_map]
  congr 1
  refine List.filter_congr fun p _=> ?_
  exact decide_eq_decide.mpr (not_congr (ek p))
 ·exact List.Nodup.sublist ((List.filter_sublist).map _) (zT hp)
 ·rw[List.mem_filter,fZ hp,decide_eq_true_eq]
  constructor
  ·rintro⟨⟨h1,h2⟩,h3⟩
   exact⟨h1,by rw[fV h3];exact h2⟩
  ·rintro⟨h1,h2⟩
   by_cases e:p.1=k
   ·rw[e,eJ] at h2;cases h2
   ·rw[fV e] at h2
    exact⟨⟨h1,h2⟩,e⟩
theorem uU:aL wF ((ps.map fU).map (·.1))=some (ps.map fun p=>(p.1:Int)):=by
 clear hp
 induction ps with
 |nil=>rfl
 |cons p r ih=>
  rw[List.map_cons,List.map_cons]
  unfold aL
  rw[ih];rfl
theorem uV:gH (ps.map fun p=>(p.1:Int))=(dJ ac).map fun p=>(p.1:Int):=by
 refine jK ((eR _).trans (hp.map _)) (eE _) ?_
 rw[List.pairwise_map]
 exact(Bl ac).imp fun h=>by omega
end
abbrev Sn:=List (Nat×Bool)
noncomputable def gl (ac:Ac) (a:Mn):Bool:=decide (a∈(dJ ac).map (·.2))
noncomputable def ie (ac:Ac):Mn→Sn
 | .letter c=>if gl ac (.letter c)=true then[] else[(c,true)]
 |_=>[]
noncomputable def vi (ac:Ac):Mn→Sn
 | .letter c=>if gl ac (.letter c)=true then[] else[(c,false)]
 |_=>[]
noncomputable def fy (p:Stn×Sn) (k:Nat) (a:Mn):Stn×Sn:=({p.1 with ac:=eX p.1.ac k (some a)},p.2++ie p.1.ac a)
noncomputable def go (p:Stn×Sn) (k:Nat):Stn×Sn:=match p.1.ac k with
 |some a=>({p.1 with ac:=eX p.1.ac k none},p.2++vi (eX p.1.ac k none) a)
 |none=>p
noncomputable def iG (p:Stn×Sn) (qs:List (Nat×Mn)):Stn×Sn:=qs.foldl (fun p q=>fy p q.1 q.2) p
noncomputable def eO (b:Bd) (ks:List Nat):Option (Nat×Int)→List Mn
 |some (_,n)=>[.layer n]
 |none=>Gy b ks
noncomputable def dk (b:Bd) (p:Stn×Sn):Stn×Sn:=match p.1.wt with
 |none=>p
 |some (ks,_,w)=>iG ({p.1 with wt:=none},p.2) (ks.zip (eO b ks w))
noncomputable def tL:Wq→Nat→Bool
 |some (ks,_,_),k=>decide (k∈ks)
 |none,_=>false
noncomputable def yE (b:Bd) (s:Stn) (k:Nat):Bool:=match s.wt with
 |some (ks,_,none)=>decide (j6 s.ac s.oc=0)&& !(d9 b (ks++[k])).isEmpty
 |_=>false
noncomputable def sS (b:Bd) (p:Stn×Sn) (k:Nat):Stn×Sn:=match p.1.wt with
 |some (ks,g,_)=>if(d9 b (ks++[k])).map (·.1.length)=[(ks++[k]).length] then dk b ({p.1 with wt:=some (ks++[k],g,none)},p.2) else({p.1 with wt:=some (ks++[k],g,none)},p.2)
 |none=>p
noncomputable def fH (s:Stn) (m:Mn):Stn:=if(m.isLy||m.isO)=true then s else{s with oc:=none}
noncomputable def ti (b:Bd) (L:Int) (p:Stn×Sn) (k:Nat):Mn→Stn×Sn
 | .tap c n=>({p.1 with wt:=some ([k],0,some (c,n))},p.2)
 | .letter c=>if(decide (L=0)&& !(d9 b [k]).isEmpty)=true then({p.1 with wt:=some ([k],0,none)},p.2) else fy p k (.letter c)
 | .once n=>({(fy p k .none).1 with oc:=some n},(fy p k .none).2)
 |m=>fy p k m
noncomputable def BN (b:Bd) (p:Stn×Sn) (k:Nat):Stn×Sn:=
 ti b (j6 p.1.ac p.1.oc) (fH p.1 (look b (j6 p.1.ac p.1.oc) k),p.2) k (look b (j6 p.1.ac p.1.oc) k)
noncomputable def gD (b:Bd) (p:Stn×Sn) (k:Nat):Stn×Sn:=
 if((p.1.ac k).isSome||tL p.1.wt k)=true then p else if yE b p.1 k=true then sS b p k else BN b (dk b p) k
noncomputable def dM (b:Bd) (p:Stn×Sn) (k:Nat):Stn×Sn:=match p.1.wt with
 |some (_,_,none)=>dk b p
 |some (_,_,some (c,_))=>fy ({p.1 with wt:=none},p.2) k (.letter c)
 |none=>p
noncomputable def lO (b:Bd) (p:Stn×Sn) (k:Nat):Stn×Sn:=go (if tL p.1.wt k=true then dM b p k else p) k
noncomputable def jW (b:Bd) (p:Stn×Sn):Stn×Sn:=match p.1.wt with
 |none=>p
 |some (ks,g,w)=>if g+1=b.wt then dk b ({p.1 with wt:=some (ks,g+1,w)},p.2) else({p.1 with wt:=some (ks,g+1,w)},p.2)
noncomputable def cW (b:Bd) (s:Stn):Evn→Stn×Sn
 | .down k=>gD b (s,[]) k
 | .up k=>lO b (s,[]) k
 | .turn=>jW b (s,[])
noncomputable def pQ (b:Bd) (s:Stn):List (Str×SV):=[("bed",.fz (bD b)),("acts",.rf 1),("waiting",.fz (ii s.wt)),("once",.fz (pJ s.oc)),("sent",.rf 2)]
noncomputable def fq (p:Nat×Bool):D:= .tuple [.str (jN p.1),.str (if p.2=true then "down" else "up")]
noncomputable def d8 (b:Bd) (s:Stn) (sn:Sn) (ps:List (Nat×Mn)) (J:bz):bz:= .obj "Hand" (pQ b s):: .dct (ps.map fU):: .lst ((sn.map fq).map .fz)::J
def HS (b:Bd) (p:Stn×Sn) (ω:bz):Prop:=∃ps J,ps.Perm (dJ p.1.ac)∧ω=d8 b p.1 p.2 ps J
section
variable {b:Bd} {s:Stn} {sn:Sn} {ps:List (Nat×Mn)} {J:bz} {ρ:cg} {i:Nat} {ω:bz} {p:Stn×Sn} {k:Nat} {a:Mn}
theorem Eh:(pQ b s).lookup ("bed":Str)=some (.fz (bD b)):=by unfold pQ;rw[List.lookup_cons_self]
theorem CI:(pQ b s).lookup ("acts":Str)=some (.rf 1):=by
 unfold pQ
 rw[List.lookup_cons,show(("acts":Str)== "bed")=false by decide+kernel]
 dsimp only
 rw[List.lookup_cons_self]
theorem CH:(pQ b s).lookup ("waiting":Str)=some (.fz (ii s.wt)):=by
 unfold pQ
 rw[List.lookup_cons,show(("waiting":Str)== "bed")=false by decide+kernel]
 dsimp only
 rw[List.lookup_cons,show(("waiting":Str)== "acts")=false by decide+kernel]
 dsimp only
 rw[List.lookup_cons_self]
theorem BU:(pQ b s).lookup ("once":Str)=some (.fz (pJ s.oc)):=by
 unfold pQ
 rw[List.lookup_cons,show(("once":Str)== "bed")=false by decide+kernel]
 dsimp only
 rw[List.lookup_cons,show(("once":Str)== "acts")=false by decide+kernel]
 dsimp only
 rw[List.lookup_cons,show(("once":Str)== "waiting")=false by decide+kernel]
 dsimp only
 rw[List.lookup_cons_self]
theorem Dc:(pQ b s).lookup ("sent":Str)=some (.rf 2):=by
 unfold pQ
 rw[List.lookup_cons,show(("sent":Str)== "bed")=false by decide+kernel]
 dsimp only
 rw[List.lookup_cons,show(("sent":Str)== "acts")=false by decide+kernel]
 dsimp only
 rw[List.lookup_cons,show(("sent":Str)== "waiting")=false by decide+kernel]
 dsimp only
 rw[List.lookup_cons,show(("sent":Str)== "once")=false by decide+kernel]
 dsimp only
 rw[List.lookup_cons_self]
noncomputable def HN (m:Str):Bool:=(m== "bed"||m== "acts"||m== "waiting"||m== "once"||m== "sent")==false
theorem GA {m:Str} (h:HN m=true):(pQ b s).lookup m=none:=by
 unfold HN at h
 simp only[beq_iff_eq,Bool.or_eq_false_iff] at h
 obtain⟨⟨⟨⟨h1,h2⟩,h3⟩,h4⟩,h5⟩:=h
 unfold pQ
 rw[List.lookup_cons,h1]
 dsimp only
 rw[List.lookup_cons,h2]
 dsimp only
 rw[List.lookup_cons,h3]
 dsimp only
 rw[List.lookup_cons,h4]
 dsimp only
 rw[List.lookup_cons,h5]
 rfl
theorem lK (h:ρ[i]? =some (some (.rf 0))):ci "Hand" "bed" (aF i) ρ (d8 b s sn ps J)= .ok (.fz (bD b)) (d8 b s sn ps J):=pe (bR h) rfl Eh
theorem gm (h:ρ[i]? =some (some (.rf 0))):ci "Hand" "acts" (aF i) ρ (d8 b s sn ps J)= .ok (.rf 1) (d8 b s sn ps J):=pe (bR h) rfl CI
theorem cf (h:ρ[i]? =some (some (.rf 0))):ci "Hand" "waiting" (aF i) ρ (d8 b s sn ps J)= .ok (.fz (ii s.wt)) (d8 b s sn ps J):=pe (bR h) rfl CH
theorem xG (h:ρ[i]? =some (some (.rf 0))):ci "Hand" "once" (aF i) ρ (d8 b s sn ps J)= .ok (.fz (pJ s.oc)) (d8 b s sn ps J):=pe (bR h) rfl BU
theorem sK (h:ρ[i]? =some (some (.rf 0))):ci "Hand" "sent" (aF i) ρ (d8 b s sn ps J)= .ok (.rf 2) (d8 b s sn ps J):=pe (bR h) rfl Dc
theorem Aj (w:Wq):eK "waiting" (.fz (ii w)) (pQ b s)=pQ b {s with wt:=w}:=by
 unfold pQ
 unfold eK
 rw[if_neg (by decide+kernel)]
 unfold eK
 rw[if_neg (by decide+kernel)]
 unfold eK
 rw[if_pos rfl]
theorem z0 (o:Option Int):eK "once" (.fz (pJ o)) (pQ b s)=pQ b {s with oc:=o}:=by
 unfold pQ
 unfold eK
 rw[if_neg (by decide+kernel)]
 unfold eK
 rw[if_neg (by decide+kernel)]
 unfold eK
 rw[if_neg (by decide+kernel)]
 unfold eK
 rw[if_pos rfl]
theorem jM (w:Wq) {fe:cB} (h:ρ[i]? =some (some (.rf 0))) (he:fe ρ ω= .ok (.fz (ii w)) (d8 b s sn ps J)):gq "Hand" "waiting" (aF i) fe ρ ω= .ok (.nx ρ) (d8 b {s with wt:=w} sn ps J):=
 (vA he (bR h) rfl (by exact Nat.le_of_ble_eq_true rfl)).trans (by rw[Aj];rfl)
theorem xR (o:Option Int) {fe:cB} (h:ρ[i]? =some (some (.rf 0))) (he:fe ρ ω= .ok (.fz (pJ o)) (d8 b s sn ps J)):gq "Hand" "once" (aF i) fe ρ ω= .ok (.nx ρ) (d8 b {s with oc:=o} sn ps J):=
 (vA he (bR h) rfl (by exact Nat.le_of_ble_eq_true rfl)).trans (by rw[z0];rfl)
theorem cr {m:Str} {F:gX} {n:Nat} {fa:kl} {xs:List SV} {x:SV} {ω':bz} (hs:HS b p ω) (hm:HN m=true) (h:ρ[i]? =some (some (.rf 0))) (ha:fa ρ ω= .ok xs ω) (hn:(SV.rf 0::xs).length=n) (hF:F (.rf 0::xs) ω= .ok x ω'):bi "Hand" m F n (aF i) fa ρ ω= .ok x ω':=by
 obtain⟨ps,J,hp,rfl⟩:=hs
 exact Ds (bR h) rfl (GA hm) ha hn hF
theorem pH (ps:List (Nat×Mn)):(ps.map fU).map (·.2)=((ps.map (·.2)).map mD).map SV.fz:=by
 rw[List.map_map,List.map_map,List.map_map];rfl
def AK (ac:Ac):Prop:=∀k a,ac k=some a→k<5∧LB a
theorem zY (hs:HS b p ω) (hA:AK p.1.ac) (ha:LB a):∃ω',bA [.rf 0,.fz (mD a)] ω= .ok (.fz (.bool (gl p.1.ac a))) ω'∧HS b p ω':=by
 obtain⟨ps,J,hp,rfl⟩:=hs
 have e1:gl p.1.ac a=decide (a∈ps.map (·.2)):=decide_eq_decide.mpr (hp.map (·.2)).symm.mem_iff
 have lb:∀m∈ps.map (·.2),LB m:=fun m hm=>by
  obtain⟨q,h1,rfl⟩:=List.mem_map.mp hm
  exact(hA _ _ ((fZ hp).mp h1).2).2
 refine⟨d8 b p.1 p.2 ps (J++[.lst ((ps.map fU).map (·.2))]),?_,ps,_,hp,rfl⟩
 rw[e1]
 exact jo (ρ:=[some (.rf 0),some (.fz (mD a))]) rfl (iA (dg (x:= .fz (mD a)) (aj (ar rfl)) (sr (gm rfl) rfl) (kg rfl (eh (by rw[pH];exact bK)) (B3 ha lb))))
theorem wS {c:Nat} {d:Bool} {fe:cB} (hl:sn.length<1000) (h:ρ[i]? =some (some (.rf 0))) (he:fe ρ (d8 b s sn ps J)= .ok (.fz (fq (c,d))) (d8 b s sn ps J)):pU (ci "Hand" "sent" (aF i)) fe ρ (d8 b s sn ps J)= .ok (.fz .none) (d8 b s (sn++[(c,d)]) ps J):=
 (rS (sK h) (xs:=(sn.map fq).map .fz) rfl he (ys:=(sn.map fq).map .fz) rfl (by rw[List.length_map,List.length_map];omega)).trans (by
  show RS.ok _ (Cell.obj "Hand" (pQ b s):: .dct (ps.map fU):: .lst ((sn.map fq).map .fz++[.fz (fq (c,d))])::J)=_
  unfold d8
  rw[List.map_append,List.map_append]
  rfl)
theorem n6 (hp:ps.Perm (dJ s.ac)) (hk:k<5) (h0:ρ[0]? =some (some (.rf 0))) (h1:ρ[1]? =some (some (.fz (nd k)))) (h2:ρ[2]? =some (some (.fz (mD a)))):∃qs:List (Nat×Mn),qs.Perm (dJ (eX s.ac k (some a)))∧qR (ci "Hand" "acts" (aF 0)) (ai (ah 1)) (ai (ah 2)) ρ (d8 b s sn ps J)= .ok (.nx ρ) (d8 b {s with ac:=eX s.ac k (some a)} sn qs J):=by
 obtain⟨qs,h3,h4⟩:=wK hp (k:=k) (a:=a) hk
 have p1:ah 1 (bW ρ)= .ok (.fz (nd k),bW ρ):=ar (by unfold bW;rw[List.getElem?_map,h1];rfl)
 have p2:ah 2 (bW ρ)= .ok (.fz (mD a),bW ρ):=ar (by unfold bW;rw[List.getElem?_map,h2];rfl)
 refine⟨qs,h4,(xF (aj p2) (gm h0) (aj p1) rfl rfl (by rw[List.length_map];have:=oz hp;omega)).trans ?_⟩
 rw[h3]
 rfl
theorem nj (hs:HS b p ω) (hA:AK p.1.ac) (ha:LB a) (hk:k<5) (hl:p.2.length<1000):∃ω',bt [.rf 0,.fz (nd k),.fz (mD a)] ω= .ok (.fz .none) ω'∧HS b (fy p k a) ω':=by
 have e0:=kU a
 have e1:=ia a
 cases q:a.isL with
 |false=>
  obtain⟨ps,J,hp,rfl⟩:=hs
  rw[q] at e1
  obtain⟨qs,h1,h2⟩:=n6 (ρ:=[some (.rf 0),some (.fz (nd k)),some (.fz (mD a))]) (b:=b) (sn:=p.2) (J:=J) (a:=a) hp hk rfl rfl rfl
  refine⟨_,k6 (ρ:=[some (.rf 0),some (.fz (nd k)),some (.fz (mD a))]) rfl (ff (ji (c9 (aU (by walk_at "ev"))) jz) h2),qs,J,h1,?_⟩
  have:ie p.1.ac a=[]:=by cases a<;>first|rfl|cases q
  unfold fy
  rw[this,List.append_nil]
 |true=>
  rw[q] at e1
  obtain⟨ω1,h1,hs1⟩:=zY hs hA ha
  have cnd:∀bb,gl p.1.ac a=bb→(g6 (bM (aW (aY dE (aY bH (ah 2) (pC (.int 0))) (pC (.str "letter"))))) (tR (bV (bi "Hand" "has_act" bA 2 (aF 0) (aB (ai (ah 2)) a8))))) [some (.rf 0),some (.fz (nd k)),some (.fz (mD a))] ω= .ok (!bb) ω1:=fun bb e=>by
   rw[e] at h1
   exact dD (aU (by walk_at "ev")) (sB (bj (cr hs (by decide+kernel) rfl (aD (aj (ar rfl)) aZ) rfl h1)))
  obtain⟨ps,J,hp,rfl⟩:=hs1
  cases q2:gl p.1.ac a with
  |true=>
   obtain⟨qs,h3,h4⟩:=n6 (ρ:=[some (.rf 0),some (.fz (nd k)),some (.fz (mD a))]) (b:=b) (sn:=p.2) (J:=J) (a:=a) hp hk rfl rfl rfl
   refine⟨_,k6 (ρ:=[some (.rf 0),some (.fz (nd k)),some (.fz (mD a))]) rfl (ff (ji (cnd true q2) jz) h4),qs,J,h3,?_⟩
   have:ie p.1.ac a=[]:=by
    cases a<;>first|cases q|skip
    show(if gl p.1.ac _=true then _ else _)=_
    rw[if_pos q2]
   unfold fy
   rw[this,List.append_nil]
  |false=>
   cases a<;>first|cases q|skip
   rename_i c
   obtain⟨qs,h3,h4⟩:=n6 (ρ:=[some (.rf 0),some (.fz (nd k)),some (.fz (mD (.letter c)))]) (b:=b) (sn:=p.2++[(c,true)]) (J:=J) (a:= .letter c) hp hk rfl rfl rfl
   have i1:bH (mD (.letter c)) (.int 1)=some (.fz (.str (jN c))):=hX
   refine⟨_,k6 (ρ:=[some (.rf 0),some (.fz (nd k)),some (.fz (mD (.letter c)))]) rfl (ff (hG (cnd false q2) (k7 (wS hl rfl (aj (show _=Res.ok (PV.fz (.tuple [.str (jN c),.str "down"]),_) by walk_at "ev"))))) h4),qs,J,h3,?_⟩
   have:ie p.1.ac (.letter c)=[(c,true)]:=by
    show(if gl p.1.ac _=true then _ else _)=_
    rw[if_neg (by rw[q2];simp)]
   unfold fy
   rw[this]
end
end STP
namespace STP
open PySem L2 L3 L10
def VA (nL:Int):Mn→Prop
 | .letter c=>c<26
 | .layer n=>1≤n∧n<nL
 | .none=>True
 |_=>False
theorem VA.lb {nL:Int} {m:Mn} (h:VA nL m):LB m:=by
 cases m with
 |letter c=>exact h
 |tap c n=>exact h.elim
 |_=>trivial
structure SA (b:Bd) (s:Stn):Prop where
 ac:∀k a,s.ac k=some a→(k:Int)<b.n∧VA b.ls.length a
 oc:∀o,s.oc=some o→1≤o∧o<b.ls.length
structure WV (b:Bd) (ac:Ac) (ks:List Nat) (g:Int) (w:Option (Nat×Int)):Prop where
 ne:ks≠[]
 nd:ks.Nodup
 kn:∀k∈ks,(k:Int)<b.n
 kf:∀k∈ks,ac k=none
 g0:0≤g
 tp:∀c n,w=some (c,n)→c<26∧(1≤n∧n<b.ls.length)∧ks.length=1
 ch:w=none→∀k∈ks,GZ (b.ls.headD []) k=true
structure SW (b:Bd) (s:Stn):Prop where
 sa:SA b s
 wt:∀ks g w,s.wt=some (ks,g,w)→WV b s.ac ks g w∧g<b.wt
theorem vV {ks:List Nat} {n:Nat} (hd:ks.Nodup) (h:∀k∈ks,k<n):ks.length≤n:=by
 rw[←C1 ks]
 have h1:(kd ks).Nodup:=(nM ks).nodup_iff.mpr hd
 refine CM (((wc ks).and h1).imp fun h=>by omega) fun k hk=>h k ((nM ks).mem_iff.mp hk)
section
variable {b:Bd} (vb:VB b) {s:Stn} {p:Stn×Sn} {ks:List Nat} {g:Int} {w:Option (Nat×Int)} {ac:Ac} {k:Nat} {a:Mn}
include vb
theorem WV.len (h:WV b ac ks g w):ks.length≤5:=vV h.nd fun k hk=>by have:=h.kn k hk;have:=vb.n5;omega
omit vb in
theorem WV.len1 (h:WV b ac ks g w):1≤ks.length:=List.length_pos_iff.mpr h.ne
theorem SA.ak (h:SA b s):AK s.ac:=fun k a e=>by
 have:=h.ac k a e
 have:=vb.n5
 exact⟨by omega,(h.ac k a e).2.lb⟩
omit vb in
theorem SA.cm (h:SA b p.1) (hk:(k:Int)<b.n) (ha:VA b.ls.length a):SA b (fy p k a).1:=by
 refine⟨fun j x e=> ?_,h.oc⟩
 by_cases z:j=k
 ·subst z
  have e':some a=some x:=(eJ (ac:=p.1.ac) (k:=j) (o:=some a)).symm.trans e
  cases e'
  exact⟨hk,ha⟩
 ·exact h.ac j x ((fV z).symm.trans e)
omit vb in
theorem SA.gg (h:SA b p.1):SA b (go p k).1:=by
 unfold go
 split
 ·refine⟨fun j x e=> ?_,h.oc⟩
  by_cases z:j=k
  ·subst z
   exact absurd ((eJ (ac:=p.1.ac) (k:=j) (o:=none)).symm.trans e) (by simp)
  ·exact h.ac j x ((fV z).symm.trans e)
 ·exact h
omit vb in
theorem pB:(fy p k a).2.length≤p.2.length+1:=by
 show(p.2++ie p.1.ac a).length≤_
 rw[List.length_append]
 have:(ie p.1.ac a).length≤1:=by
  cases a with
  |letter c=>show(if _ then _ else _:Sn).length≤1;split<;>simp
  |_=>simp[ie]
 omega
omit vb in
theorem yO (qs:List (Nat×Mn)):∀p:Stn×Sn,(iG p qs).2.length≤p.2.length+qs.length:=by
 induction qs with
 |nil=>exact fun p=>Nat.le_refl _
 |cons q r ih=>
  intro p
  have h1:=ih (fy p q.1 q.2)
  have h2:=pB (p:=p) (k:=q.1) (a:=q.2)
  show(iG (fy p q.1 q.2) r).2.length≤_
  rw[List.length_cons]
  omega
omit vb in
theorem SA.cms (qs:List (Nat×Mn)):∀{p:Stn×Sn},SA b p.1→(∀q∈qs,(q.1:Int)<b.n∧VA b.ls.length q.2)→SA b (iG p qs).1∧(iG p qs).1.wt=p.1.wt∧(iG p qs).1.oc=p.1.oc:=by
 induction qs with
 |nil=>exact fun h _=>⟨h,rfl,rfl⟩
 |cons q r ih=>
  intro p h hq
  have h1:=hq q List.mem_cons_self
  exact ih (h.cm h1.1 h1.2) fun x hx=>hq x (List.mem_cons_of_mem _ hx)
theorem E3 (h:GZ (b.ls.headD []) k=true):∃c,kC b 0 k= .letter c:=by
 have hl:=vb.l1
 obtain⟨l0,r,e⟩:∃l0 r,b.ls=l0::r:=by
  cases q:b.ls with
  |nil=>rw[q] at hl;cases hl
  |cons l r=>exact⟨l,r,rfl⟩
 unfold GZ at h
 unfold kC
 rw[e] at h⊢
 rw[List.getElem?_cons_zero,Option.getD_some]
 rw[List.headD_cons] at h
 cases q:l0[k]? with
 |none=>rw[q] at h;cases h
 |some m=>
  rw[q] at h
  cases m with
  |letter c=>exact⟨c,rfl⟩
  |_=>cases h
theorem Di (hk:(k:Int)<b.n) (h:GZ (b.ls.headD []) k=true):VA b.ls.length (kC b 0 k):=by
 have hl:=vb.l1
 obtain⟨c,e⟩:=E3 vb h
 have:=v7 vb (L:=0) (k:=k) (by omega) hk
 rw[e] at this⊢
 exact this
theorem Ff (h:WV b ac ks g none):∀m∈Gy b ks,VA b.ls.length m:=by
 intro m hm
 unfold Gy at hm
 split at hm
 ·rename_i c hc
  rcases List.mem_cons.mp hm with rfl|hm
  ·exact(vb.vc c (List.mem_of_find?_eq_some hc)).2.2.2
  ·rw[(List.mem_replicate.mp hm).2];trivial
 ·obtain⟨j,hj,rfl⟩:=List.mem_map.mp hm
  exact Di vb (h.kn j hj) (h.ch rfl j hj)
theorem sF (h:WV b ac ks g w):∀q∈ks.zip (eO b ks w),(q.1:Int)<b.n∧VA b.ls.length q.2:=by
 intro q hq
 have h1:=List.of_mem_zip hq
 refine⟨h.kn _ h1.1,?_⟩
 cases w with
 |none=>exact Ff vb h _ h1.2
 |some cn=>
  obtain⟨c,n⟩:=cn
  rw[List.mem_singleton.mp h1.2]
  exact(h.tp c n rfl).2.1
def WD (b:Bd) (s:Stn):Prop:=∀ks g w,s.wt=some (ks,g,w)→WV b s.ac ks g w
theorem ig (h:SA b p.1) (hw:WD b p.1):SW b (dk b p).1∧(dk b p).1.wt=none∧(dk b p).2.length≤p.2.length+5∧(dk b p).1.oc=p.1.oc:=by
 unfold dk
 split
 ·rename_i q
  exact⟨⟨h,fun ks g w e=>by rw[q] at e;cases e⟩,q,Nat.le_add_right _ _,rfl⟩
 ·rename_i ks g w q
  have v:=hw ks g w q
  obtain⟨h1,h2,h3⟩:=SA.cms (ks.zip (eO b ks w)) (p:=({p.1 with wt:=none},p.2)) ⟨h.ac,h.oc⟩ (sF vb v)
  refine⟨⟨h1,fun _ _ _ e=> ?_⟩,h2,?_,h3⟩
  ·rw[h2] at e;cases e
  ·have:=yO (ks.zip (eO b ks w)) ({p.1 with wt:=none},p.2)
   have l5:=v.len vb
   rw[List.length_zip] at this
   have:(iG ({p.1 with wt:=none},p.2) (ks.zip (eO b ks w))).2.length≤p.2.length+min ks.length (eO b ks w).length:=this
   omega
omit vb in
theorem xi:∀(l:List Int) (m:Option Int),l.foldl jT m=m∨∃x∈l,l.foldl jT m=some x
 |[],m=> .inl rfl
 |x::r,m=>by
  rw[List.foldl_cons]
  rcases xi r (jT m x) with h|⟨y,hy,h⟩
  ·rw[h]
   cases m with
   |none=>exact .inr ⟨x,List.mem_cons_self,rfl⟩
   |some z=>
    show some (if x>z then x else z)=some z∨_
    split
    ·exact .inr ⟨x,List.mem_cons_self,by show some (if x>z then x else z)=_;rename_i q;rw[if_pos q]⟩
    ·exact .inl rfl
  ·exact .inr ⟨y,List.mem_cons_of_mem _ hy,h⟩
omit vb in
theorem xV:∀(l:List Int) (m:Option Int),(∀x∈l,∃y,l.foldl jT m=some y∧x≤y)∧∀z,m=some z→∃y,l.foldl jT m=some y∧z≤y
 |[],m=>⟨fun x hx=>(by cases hx),fun z h=>⟨z,h,Int.le_refl _⟩⟩
 |x::r,m=>by
  rw[List.foldl_cons]
  obtain⟨h1,h2⟩:=xV r (jT m x)
  have h3:∃z,jT m x=some z∧x≤z∧∀u,m=some u→u≤z:=by
   cases m with
   |none=>exact⟨x,rfl,Int.le_refl _,fun u h=>by cases h⟩
   |some u=>
    refine⟨if x>u then x else u,rfl,?_,fun v h=> ?_⟩
    ·split<;>omega
    ·cases h;split<;>omega
  obtain⟨z,e1,e2,e3⟩:=h3
  obtain⟨y,e4,e5⟩:=h2 z e1
  refine⟨fun v hv=> ?_,fun u hu=>⟨y,e4,by have:=e3 u hu;omega⟩⟩
  rcases List.mem_cons.mp hv with rfl|hv
  ·exact⟨y,e4,by omega⟩
  ·exact h1 v hv
omit vb in
theorem wM {ac:Ac} {n:Int}:n∈(dJ ac).filterMap BP↔∃k,k<5∧ac k=some (.layer n):=by
 rw[List.mem_filterMap]
 constructor
 ·rintro⟨⟨k,m⟩,h1,h2⟩
  have h3:=iu.mp h1
  cases m with
  |layer x=>
   have:x=n:=Option.some.inj h2
   subst this
   exact⟨k,h3.1,h3.2⟩
  |_=>cases h2
 ·rintro⟨k,h1,h2⟩
  exact⟨(k,.layer n),iu.mpr ⟨h1,h2⟩,rfl⟩
theorem nv (h:SA b s):0≤c7 s.ac∧c7 s.ac<b.ls.length∧(∀k n,s.ac k=some (.layer n)→n≤c7 s.ac)∧(c7 s.ac=0∨∃k,s.ac k=some (.layer (c7 s.ac))):=by
 have hl:=vb.l1
 have h5:=vb.n5
 unfold c7
 generalize hm:((dJ s.ac).filterMap BP).foldl jT none=m
 have h1:=(xV ((dJ s.ac).filterMap BP) none).1
 have h2:=xi ((dJ s.ac).filterMap BP) none
 rw[hm] at h1 h2
 have up:∀k n,s.ac k=some (.layer n)→∃y,m=some y∧n≤y:=fun k n e=>h1 n (wM.mpr ⟨k,by have:=(h.ac k _ e).1;omega,e⟩)
 cases m with
 |none=>
  refine⟨Int.le_refl _,by show(0:Int)<_;omega,fun k n e=> ?_,.inl rfl⟩
  obtain⟨y,e2,_⟩:=up k n e
  cases e2
 |some x=>
  rcases h2 with h2|⟨y,hy,h2⟩
  ·cases h2
  ·cases h2
   obtain⟨k,_,e⟩:=wM.mp hy
   have:=(h.ac k _ e).2
   have:1≤x∧x<b.ls.length:=this
   refine⟨by show 0≤x;omega,by show x<_;omega,fun k n e=> ?_,.inr ⟨k,e⟩⟩
   obtain⟨y,e2,h3⟩:=up k n e
   cases e2
   exact h3
theorem wg (h:SA b s):0≤j6 s.ac s.oc∧j6 s.ac s.oc<b.ls.length:=by
 cases q:s.oc with
 |none=>have:=nv vb h;exact⟨this.1,this.2.1⟩
 |some o=>have:=h.oc o q;exact⟨by show 0≤o;omega,this.2⟩
end
section
variable {b:Bd} {s:Stn} {sn:Sn} {ps:List (Nat×Mn)} {J:bz} {ρ:cg} {i:Nat} {ω:bz} {p:Stn×Sn} {k:Nat} {a:Mn}
theorem kh {α β:Type} {f:α→Option β} {x:α} {y:β} (h:f x=some y):aL f [x]=some [y]:=by
 unfold aL
 rw[h];rfl
theorem hW {l:bz} {c c':Cell}:(l++[c]).set l.length c'=l++[c']:=by simp
theorem l7 (hs:HS b p ω):∃ω',bx [.rf 0] ω= .ok (.fz (cU p.1)) ω'∧HS b p ω':=by
 obtain⟨ps,J,hp,rfl⟩:=hs
 have hl5:=oz hp
 have fi:g8 (jZ (ci "Hand" "acts" (aF 0))) [some (.rf 0)] (d8 b p.1 p.2 ps J)= .ok ((dJ p.1.ac).map fun q=>nd q.1) (d8 b p.1 p.2 ps (J++[.dead])):=by
  refine(vB (ds:=(dJ p.1.ac).map fun q=>nd q.1) (xq (gm rfl) rfl (uU hp) (by rw[List.length_map];omega)) ?_).trans ?_
  ·rw[uV hp]
   refine bK.trans ?_
   rw[List.map_map,List.map_map]
   rfl
  ·rw[hW];rfl
 have cv:bS (fM 0) jj (gO (aB (ai (ah 0)) (aB (jX (ci "Hand" "acts" (aF 1)) (ai (ah 0))) a8))) ((dJ p.1.ac).map fun q=>nd q.1) [none,some (.rf 0)] (d8 b p.1 p.2 ps (J++[.dead])) []= .ok (((dJ p.1.ac).map pD).map .fz) (d8 b p.1 p.2 ps (J++[.dead])):=by
  refine(jA (fun q:Nat×Mn=>nd q.1) (fun q=> .fz (pD q)) _ (fun ρ=>∃o,ρ=[o,some (.rf 0)]) (dJ p.1.ac) _ [] ⟨none,rfl⟩ (by have:=nz p.1.ac;rw[List.length_nil];omega) ?_).trans (by rw[List.map_map];rfl)
  rintro q hq ρ ⟨o,rfl⟩
  have hm:=iu.mp hq
  refine⟨[some (.fz (nd q.1)),some (.rf 0)],rfl,rfl,?_,_,rfl⟩
  exact l6 (ds:=[nd q.1,mD q.2]) (aD (aj (ar rfl)) (aD (xz (gm rfl) (aj (d:=nd q.1) (ar rfl)) rfl rfl (by rw[gK hp hm.1,hm.2];rfl)) aZ)) (Nat.le_of_ble_eq_true rfl)
 have tp:Dm mI (aB (j8 1 [0] (g8 (jZ (ci "Hand" "acts" (aF 0)))) (fM 0) jj (gO (aB (ai (ah 0)) (aB (jX (ci "Hand" "acts" (aF 1)) (ai (ah 0))) a8)))) a8) [some (.rf 0)] (d8 b p.1 p.2 ps J)= .ok (.fz (.tuple ((dJ p.1.ac).map pD))) (d8 b p.1 p.2 ps (J++[.dead]++[.lst (((dJ p.1.ac).map pD).map .fz)])):=
  BE (ds:=[.list ((dJ p.1.ac).map pD)]) (aD (rY fi cv) aZ) (kh (eh (ω:=d8 b p.1 p.2 ps (J++[.dead])++[.lst (((dJ p.1.ac).map pD).map .fz)]) (ds:=(dJ p.1.ac).map pD) bK)) rfl
 exact⟨_,jo (ρ:=[some (.rf 0)]) rfl (iA (l6 (ds:=[.tuple ((dJ p.1.ac).map pD),ii p.1.wt,pJ p.1.oc]) (aD tp (aD (cf rfl) (aD (xG rfl) aZ))) (Nat.le_of_ble_eq_true rfl))),ps,_,hp,rfl⟩
theorem Be (hs:HS b p ω):bG [.rf 0,.fz (nd k)] ω= .ok (.fz (.bool (tL p.1.wt k))) ω:=by
 obtain⟨ps,J,hp,rfl⟩:=hs
 refine jo (ρ:=[some (.rf 0),some (.fz (nd k))]) rfl (iA ?_)
 cases q:p.1.wt with
 |none=>
  have e1:oC (ii p.1.wt) .none=some (.fz (.bool false)):=by rw[q];rfl
  exact yF (bj (dg (cf rfl) (aj bC) (dj e1)))
 |some x=>
  obtain⟨ks,g,w⟩:=x
  have e1:oC (ii p.1.wt) .none=some (.fz (.bool true)):=by rw[q];rfl
  have e2:bH (ii p.1.wt) (.int 0)=some (.fz (.tuple (b3 ks))):=by rw[q];exact iK
  exact y3 (bj (dg (cf rfl) (aj bC) (dj e1))) (dg (x:= .fz (nd k)) (aj (ar rfl)) (dc (cf rfl) (aj bC) e2) (dj (rL _ _)))
theorem GR (hs:HS b p ω) (hA:AK p.1.ac) (ha:p.1.ac k=some a) (hl:p.2.length<1000):∃ω',fA [.rf 0,.fz (nd k)] ω= .ok (.fz .none) ω'∧HS b (go p k) ω':=by
 obtain⟨ps,J,hp,rfl⟩:=hs
 have hk:=(hA k a ha).1
 have lb:=(hA k a ha).2
 obtain⟨qs,d1,d2⟩:=t6 hp (k:=k)
 have pop:ra (ci "Hand" "acts" (aF 0)) (ai (ah 1)) [some (.rf 0),some (.fz (nd k)),none] (d8 b p.1 p.2 ps J)= .ok (.fz (mD a)) (d8 b {p.1 with ac:=eX p.1.ac k none} p.2 qs J):=
  (x9 (gm rfl) rfl (aj (d:=nd k) (ar rfl)) rfl rfl (by rw[gK hp hk,ha];rfl)).trans (by rw[d1];rfl)
 have eg:go p k=({p.1 with ac:=eX p.1.ac k none},p.2++vi (eX p.1.ac k none) a):=by unfold go;rw[ha]
 rw[eg]
 have hA':AK (eX p.1.ac k none):=fun j x e=>by
  by_cases z:j=k
  ·subst z;rw[eJ] at e;cases e
  ·rw[fV z] at e;exact hA j x e
 have e0:=kU a
 have e1:=ia a
 have t1:aW (aY dE (aY bH (ah 2) (pC (.int 0))) (pC (.str "letter"))) (bW [some (.rf 0),some (.fz (nd k)),some (.fz (mD a))])= .ok (a.isL,bW [some (.rf 0),some (.fz (nd k)),some (.fz (mD a))]):=by walk_at "ev"
 have fin:GoS (cY (g6 (bM (aW (aY dE (aY bH (ah 2) (pC (.int 0))) (pC (.str "letter"))))) (tR (bV (bi "Hand" "has_act" bA 2 (aF 0) (aB (ai (ah 2)) a8))))) (cK (pU (ci "Hand" "sent" (aF 0)) (ai (c8 (ap (aY bH (ah 2) (pC (.int 1))) (ap (pC (.str "up")) aJ)))))) dh [some (.rf 0),some (.fz (nd k)),some (.fz (mD a))] (d8 b {p.1 with ac:=eX p.1.ac k none} p.2 qs J)) (fun _ ω'=>SV.fz .none= .fz .none∧HS b ({p.1 with ac:=eX p.1.ac k none},p.2++vi (eX p.1.ac k none) a) ω') (fun _ _=>False) (fun r ω'=>r= .fz .none∧HS b ({p.1 with ac:=eX p.1.ac k none},p.2++vi (eX p.1.ac k none) a) ω'):=by
  cases q:a.isL with
  |false=>
   rw[q] at t1
   refine eu (c9 (aU t1)) (jH ⟨rfl,qs,J,d2,?_⟩)
   have:vi (eX p.1.ac k none) a=[]:=by cases a<;>first|rfl|cases q
   rw[this,List.append_nil]
  |true=>
   rw[q] at t1
   obtain⟨ω1,h1,hs1⟩:=zY (b:=b) (p:=({p.1 with ac:=eX p.1.ac k none},p.2)) (ω:=d8 b {p.1 with ac:=eX p.1.ac k none} p.2 qs J) ⟨qs,J,d2,rfl⟩ hA' lb
   have cnd:∀bb,gl (eX p.1.ac k none) a=bb→(g6 (bM (aW (aY dE (aY bH (ah 2) (pC (.int 0))) (pC (.str "letter"))))) (tR (bV (bi "Hand" "has_act" bA 2 (aF 0) (aB (ai (ah 2)) a8))))) [some (.rf 0),some (.fz (nd k)),some (.fz (mD a))] (d8 b {p.1 with ac:=eX p.1.ac k none} p.2 qs J)= .ok (!bb) ω1:=fun bb e=>by
    have h1:bA [.rf 0,.fz (mD a)] (d8 b {p.1 with ac:=eX p.1.ac k none} p.2 qs J)= .ok (.fz (.bool bb)) ω1:=by rw[←e];exact h1
    exact dD (aU t1) (sB (bj (cr (p:=({p.1 with ac:=eX p.1.ac k none},p.2)) ⟨qs,J,d2,rfl⟩ (by decide+kernel) rfl (aD (aj (ar rfl)) aZ) rfl h1)))
   obtain⟨rs,J2,hr,e2⟩:=hs1
   rw[e2] at cnd
   cases q2:gl (eX p.1.ac k none) a with
   |true=>
    refine eu (cnd true q2) (jH ⟨rfl,rs,J2,hr,?_⟩)
    have:vi (eX p.1.ac k none) a=[]:=by
     cases a<;>first|cases q|skip
     show(if gl (eX p.1.ac k none) _=true then _ else _)=_
     rw[if_pos q2]
    rw[this,List.append_nil]
   |false=>
    cases a<;>first|cases q|skip
    rename_i c
    have i1:bH (mD (.letter c)) (.int 1)=some (.fz (.str (jN c))):=hX
    refine oN (cnd false q2) (gk (wS (c:=c) (d:=false) hl rfl (aj (show _=Res.ok (PV.fz (.tuple [.str (jN c),.str "up"]),_) by walk_at "ev"))) ⟨rfl,rs,J2,hr,?_⟩)
    have:vi (eX p.1.ac k none) (.letter c)=[(c,false)]:=by
     show(if gl (eX p.1.ac k none) _=true then _ else _)=_
     rw[if_neg (by rw[q2];simp)]
    rw[this]
 exact gx (ρ:=[some (.rf 0),some (.fz (nd k)),none]) rfl (cG pop rfl fin)
end
end STP
namespace STP
open PySem L2 L3 L10
section
variable {b:Bd} (vb:VB b) {s:Stn} {sn:Sn} {ps:List (Nat×Mn)} {J:bz} {ρ:cg} {i:Nat} {ω:bz} {p:Stn×Sn} {k:Nat} {a:Mn} {ks:List Nat} {g:Int} {w:Option (Nat×Int)}
theorem AH:∀(ks:List Nat) (as:List Mn),ka (b3 ks) (as.map mD)=(ks.zip as).map pD
 |[],_=>by cases ‹List Mn›<;>rfl
 |_::_,[]=>rfl
 |k::r,a::t=>by
  show PyData.tuple [nd k,mD a]::ka (b3 r) (t.map mD)=_
  rw[AH r t]
  rfl
theorem vT (h:∀c n,w=some (c,n)→c<26):dE (me w) (.tuple [.str "chord"])=some (.fz (.bool w.isNone))∧mG (me w) (.tuple [.str "chord"])=some (.fz (.bool w.isSome)):=by
 cases w with
 |none=>
  have h1:iL (.tuple [.str "chord"])=true:=by decide+kernel
  have h2:PyData.canLay0 (.tuple [.str "chord"])=true:=by decide+kernel
  have h3:PyData.eqv (.tuple [.str "chord"]) (.tuple [.str "chord"])=true:=by decide+kernel
  constructor
  ·show(if(iL (.tuple [.str "chord"])&&PyData.canLay0 (.tuple [.str "chord"]))=true then some (RV.fz (.bool (PyData.eqv (.tuple [.str "chord"]) (.tuple [.str "chord"])))) else none)=_
   rw[h1,h2,h3];rfl
  ·show(if(iL (.tuple [.str "chord"])&&PyData.canLay0 (.tuple [.str "chord"]))=true then some (RV.fz (.bool (!PyData.eqv (.tuple [.str "chord"]) (.tuple [.str "chord"])))) else none)=_
   rw[h1,h2,h3];rfl
 |some cn=>
  obtain⟨c,n⟩:=cn
  have lb:LB (.tap c n):=h c n rfl
  have e:PyData.eqv (mD (.tap c n)) (.tuple [.str "chord"])=false:=by
   show(decide (("tap":Str)= "chord")&&PyData.eqvAll [.str (jN c),.int n] [])=false
   rw[show decide (("tap":Str)= "chord")=false by decide+kernel];rfl
  constructor
  ·show(if(iL (mD (.tap c n))&&PyData.canLay0 (.tuple [.str "chord"]))=true then some (RV.fz (.bool (PyData.eqv (mD (.tap c n)) (.tuple [.str "chord"])))) else none)=_
   rw[xZ lb,show PyData.canLay0 (.tuple [.str "chord"])=true by decide+kernel,e];rfl
  ·show(if(iL (mD (.tap c n))&&PyData.canLay0 (.tuple [.str "chord"]))=true then some (RV.fz (.bool (!PyData.eqv (mD (.tap c n)) (.tuple [.str "chord"])))) else none)=_
   rw[xZ lb,show PyData.canLay0 (.tuple [.str "chord"])=true by decide+kernel,e];rfl
theorem uz (ks:List Nat) (w:Option (Nat×Int)) (as:List Mn):∀(qs:List (Nat×Mn)) (p:Stn×Sn) (ω:bz) (o4 o5:Option SV),HS b p ω→AK p.1.ac→(∀q∈qs,q.1<5∧LB q.2)→p.2.length+qs.length<1000→
  ∃ρ' ω',ml (F5 2 (pi (fM 4) (pi (fM 5) yq))) (cK (bi "Hand" "come" bt 3 (aF 0) (aB (ai (ah 4)) (aB (ai (ah 5)) a8)))) (qs.map pD) [some (.rf 0),some (.fz (.tuple (b3 ks))),some (.fz (me w)),some (.fz (.list (as.map mD))),o4,o5] ω= .ok (.nx ρ') ω'∧HS b (iG p qs) ω'
 |[],p,ω,o4,o5,hs,_,_,_=>⟨_,ω,rfl,hs⟩
 |q::r,p,ω,o4,o5,hs,hA,hq,hl=>by
  rw[List.length_cons] at hl
  have h1:=hq q List.mem_cons_self
  obtain⟨ω1,e1,hs1⟩:=nj (k:=q.1) (a:=q.2) hs hA h1.2 h1.1 (by omega)
  have hA1:AK (fy p q.1 q.2).1.ac:=fun j x e=>by
   by_cases z:j=q.1
   ·have e':some q.2=some x:=by rw[z] at e;exact(eJ (ac:=p.1.ac) (k:=q.1) (o:=some q.2)).symm.trans e
    cases e'
    exact⟨by rw[z];exact h1.1,h1.2⟩
   ·exact hA j x ((fV z).symm.trans e)
  have:=pB (p:=p) (k:=q.1) (a:=q.2)
  obtain⟨ρ',ω',e2,hs2⟩:=uz ks w as r (fy p q.1 q.2) ω1 (some (.fz (nd q.1))) (some (.fz (mD q.2))) hs1 hA1 (fun x hx=>hq x (List.mem_cons_of_mem _ hx)) (by omega)
  refine⟨ρ',ω',?_,hs2⟩
  have st:cK (bi "Hand" "come" bt 3 (aF 0) (aB (ai (ah 4)) (aB (ai (ah 5)) a8))) [some (.rf 0),some (.fz (.tuple (b3 ks))),some (.fz (me w)),some (.fz (.list (as.map mD))),some (.fz (nd q.1)),some (.fz (mD q.2))] ω= .ok (.nx [some (.rf 0),some (.fz (.tuple (b3 ks))),some (.fz (me w)),some (.fz (.list (as.map mD))),some (.fz (nd q.1)),some (.fz (mD q.2))]) ω1:=
   k7 (cr hs (by decide+kernel) rfl (aD (aj (ar rfl)) (aD (aj (ar rfl)) aZ)) rfl e1)
  show((cK (bi "Hand" "come" bt 3 (aF 0) (aB (ai (ah 4)) (aB (ai (ah 5)) a8))) [some (.rf 0),some (.fz (.tuple (b3 ks))),some (.fz (me w)),some (.fz (.list (as.map mD))),some (.fz (nd q.1)),some (.fz (mD q.2))] ω).bind _)=_
  rw[st,RS.bind_ok]
  exact e2
include vb
theorem jJ (hs:HS b p ω) (sa:SA b p.1) (hw:p.1.wt=some (ks,g,w)) (v:WV b p.1.ac ks g w) (hl:p.2.length<900):∃ω',bO [.rf 0] ω= .ok (.fz .none) ω'∧HS b (dk b p) ω':=by
 obtain⟨ps,J,hp,rfl⟩:=hs
 have e0:bH (ii p.1.wt) (.int 0)=some (.fz (.tuple (b3 ks))):=by rw[hw];exact iK
 have e2:bH (ii p.1.wt) (.int 2)=some (.fz (me w)):=by rw[hw];exact pM
 have l5:=v.len vb
 have l1:=v.len1
 have ec:=vT (w:=w) fun c n h=>(v.tp c n h).1
 have ed:dk b p=iG ({p.1 with wt:=none},p.2) (ks.zip (eO b ks w)):=by unfold dk;rw[hw]
 rw[ed]
 have t1:aW (aY dE (ah 2) (pC (.tuple [.str "chord"]))) (bW [some (.rf 0),some (.fz (.tuple (b3 ks))),some (.fz (me w)),none,none,none])= .ok (w.isNone,bW [some (.rf 0),some (.fz (.tuple (b3 ks))),some (.fz (me w)),none,none,none]):=eC (bQ (rv:= .fz (.bool w.isNone)) (ar rfl) bC rfl rfl ec.1) rfl
 have acts:tJ (EJ (bM (aW (aY dE (ah 2) (pC (.tuple [(.str "chord")]))))) (ib dN 2 (aB (ci "Hand" "bed" (aF 0)) (aB (ai (ah 1)) a8))) (ai (dG (ap (c8 (ap (pC (.str "layer")) (ap (aY bH (ah 2) (pC (.int 2))) aJ))) aJ)))) [some (.rf 0),some (.fz (.tuple (b3 ks))),some (.fz (me w)),none,none,none] (d8 b {p.1 with wt:=none} p.2 ps J)= .ok (.fz (.list ((eO b ks w).map mD))) (d8 b {p.1 with wt:=none} p.2 ps (J++[.dead])):=by
  cases w with
  |none=>
   have ca:=EC vb l1 l5 v.kn
   exact(si (CP (aU t1) (rz (ds:=[bD b,.tuple (b3 ks)]) (aD (lK rfl) (aD (aj (ar rfl)) aZ)) rfl ca)) (mW bK)).trans (by rw[hW];rfl)
  |some cn=>
   obtain⟨c,n⟩:=cn
   have i2:bH (me (some (c,n))) (.int 2)=some (.fz (.int n)):=pM
   exact(si (C5 (aU t1) (dU (ds:=[mD (.layer n)]) (show _=Res.ok (PV.ow [.tuple [.str "layer",.int n]],_) by walk_at "ev"))) (mW bK)).trans (by rw[hW];rfl)
 have lp:∃ρ' ω',uB (mv (Bt (ap (ah 1) (ap (ah 3) aJ)))) (F5 2 (pi (fM 4) (pi (fM 5) yq))) (cK (bi "Hand" "come" bt 3 (aF 0) (aB (ai (ah 4)) (aB (ai (ah 5)) a8)))) [some (.rf 0),some (.fz (.tuple (b3 ks))),some (.fz (me w)),some (.fz (.list ((eO b ks w).map mD))),none,none] (d8 b {p.1 with wt:=none} p.2 ps (J++[.dead]))= .ok (.nx ρ') ω'∧HS b (iG ({p.1 with wt:=none},p.2) (ks.zip (eO b ks w))) ω':=by
  have h5:=vb.n5
  obtain⟨ρ',ω',h1,h2⟩:=uz (b:=b) ks w (eO b ks w) (ks.zip (eO b ks w)) ({p.1 with wt:=none},p.2) (d8 b {p.1 with wt:=none} p.2 ps (J++[.dead])) none none ⟨ps,_,hp,rfl⟩ (SA.ak vb (s:={p.1 with wt:=none}) ⟨sa.ac,sa.oc⟩) (fun q hq=>by
   have:=sF vb v q hq
   exact⟨by omega,this.2.lb⟩) (by
   rw[List.length_zip]
   show p.2.length+_<1000
   omega)
  refine⟨ρ',ω',?_,h2⟩
  unfold uB
  rw[oM (xQ (d:= .tuple (b3 ks)) (e:= .list ((eO b ks w).map mD)) (es:=b3 ks) (fs:=(eO b ks w).map mD) (ρ2:=bW [some (.rf 0),some (.fz (.tuple (b3 ks))),some (.fz (me w)),some (.fz (.list ((eO b ks w).map mD))),none,none]) (bp (ar rfl) (bp (ar rfl) cP)) rfl rfl rfl),RS.bind_ok,AH]
  exact h1
 obtain⟨ρ',ω',lp,hs'⟩:=lp
 refine⟨ω',k6 (ρ:=[some (.rf 0),none,none,none,none,none]) (ρ1:=ρ') rfl ?_,hs'⟩
 exact ff (sL (dc (cf rfl) (aj bC) e0) rfl) (ff (sL (dc (cf rfl) (aj bC) e2) rfl) (ff (jM none rfl (aj bC)) (ff (sL acts rfl) lp)))
omit vb in
theorem C2 {c:List Nat×Nat} (h:c.2<26):PyData.canLay0 (f6 c)=true:=by
 show(PyData.canLayAll0 (b3 c.1)&&(PyData.strOk (jN c.2)&&true))=true
 rw[jP,rZ h];rfl
omit vb in
theorem FD:∀{cs:List (List Nat×Nat)},(∀c∈cs,c.2<26)→mG (.list (cs.map f6)) (.list [])=some (.fz (.bool (!cs.isEmpty))):=by
 intro cs h
 have l1:∀cs:List (List Nat×Nat),(∀c∈cs,c.2<26)→PyData.canLayAll0 (cs.map f6)=true:=by
  intro cs
  induction cs with
  |nil=>exact fun _=>rfl
  |cons c r ih=>
   intro h
   show(PyData.canLay0 (f6 c)&&PyData.canLayAll0 (r.map f6))=true
   rw[C2 (h c List.mem_cons_self),ih fun x hx=>h x (List.mem_cons_of_mem _ hx)];rfl
 have l2:∀cs:List (List Nat×Nat),PyData.depthAll (cs.map f6)≤2:=by
  intro cs
  induction cs with
  |nil=>exact Nat.zero_le _
  |cons c r ih=>
   show max (PyData.depth (f6 c)) (PyData.depthAll (r.map f6))≤2
   refine Nat.max_le.mpr ⟨?_,ih⟩
   show max (PyData.depthAll (b3 c.1)+1) (max 0 0)+1≤2
   rw[nr];decide
 show(if((PyData.canLayAll0 (cs.map f6)&&decide (PyData.depthAll (cs.map f6)+1≤64))&&true)=true then some (RV.fz (.bool (!PyData.eqvAll (cs.map f6) []))) else none)=_
 rw[l1 cs h,decide_eq_true (show PyData.depthAll (cs.map f6)+1≤64 by have:=l2 cs;omega)]
 cases cs<;>rfl
theorem Dk {c:List Nat×Nat} (h:c∈d9 b ks):c.2<26:=(vb.vc c (List.mem_filter.mp h).1).2.2.2
omit vb in
theorem ye (h:ks≠[]) (h5:ks.length≤5):eW (.tuple (b3 ks)) (.tuple [nd k])=some (.fz (.tuple (b3 (ks++[k])))):=by
 show(if b3 ks≠[]∧(b3 ks).length+1≤1000000 then some (RV.fz (.tuple (b3 ks++[nd k]))) else none)=_
 rw[if_pos ⟨by cases ks with
  |nil=>exact absurd rfl h
  |cons x r=>simp[b3],by rw[gC];omega⟩,C3]
 rfl
theorem xb {fa:cB} {ω1:bz} (hs:∃ps J,ω1=d8 b s sn ps J) (h0:ρ[0]? =some (some (.rf 0))) (hk:ks.length≤5) (he:fa ρ ω1= .ok (.fz (.tuple (b3 ks))) ω1):je mG (ib bw 2 (aB (ci "Hand" "bed" (aF 0)) (aB fa a8))) (ai (dG aJ)) ρ ω1= .ok (.fz (.bool (!(d9 b ks).isEmpty))) (ω1++[.lst (((d9 b ks).map f6).map .fz)]++[.lst []]):=by
 obtain⟨ps,J,rfl⟩:=hs
 refine dg (rz (ds:=[bD b,.tuple (b3 ks)]) (aD (lK h0) (aD he aZ)) rfl (yl vb hk)) (dU (ds:=[]) (ρ':=bW ρ) (sG cP rfl (Nat.zero_le _))) ?_
 exact kg (eh (fN bK)) (eh (ds:=[]) bK) (FD fun c hc=>Dk vb hc)
theorem Fu (hs:HS b p ω) (sw:SW b p.1) (hk:(k:Int)<b.n) (hn:tL p.1.wt k=false):∃ω',cF [.rf 0,.fz (nd k)] ω= .ok (.fz (.bool (yE b p.1 k))) ω'∧HS b p ω':=by
 cases q:p.1.wt with
 |none=>
  have em:yE b p.1 k=false:=by unfold yE;rw[q]
  rw[em]
  obtain⟨ps,J,hp,rfl⟩:=hs
  have e1:sY (ii p.1.wt) .none=some (.fz (.bool true)):=by rw[q];rfl
  exact⟨_,jo (ρ:=[some (.rf 0),some (.fz (nd k))]) rfl (lz (hG (oh (bj (dg (cf rfl) (aj bC) (dj e1)))) (iA (aj bC)))),ps,J,hp,rfl⟩
 |some x=>
  obtain⟨ks,g,w⟩:=x
  have v:=(sw.wt ks g w q).1
  have l5:=v.len vb
  have e1:sY (ii p.1.wt) .none=some (.fz (.bool false)):=by rw[q];rfl
  have e2:bH (ii p.1.wt) (.int 2)=some (.fz (me w)):=by rw[q];exact pM
  have e0:bH (ii p.1.wt) (.int 0)=some (.fz (.tuple (b3 ks))):=by rw[q];exact iK
  have ec:=(vT (w:=w) fun c n h=>(v.tp c n h).1).2
  cases w with
  |some cn=>
   have em:yE b p.1 k=false:=by unfold yE;rw[q]
   rw[em]
   obtain⟨ps,J,hp,rfl⟩:=hs
   exact⟨_,jo (ρ:=[some (.rf 0),some (.fz (nd k))]) rfl (lz (hG (fP (bj (dg (cf rfl) (aj bC) (dj e1))) (oh (bj (dg (dc (cf rfl) (aj bC) e2) (aj bC) (dj ec))))) (iA (aj bC)))),ps,J,hp,rfl⟩
  |none=>
   have em:yE b p.1 k=(decide (j6 p.1.ac p.1.oc=0)&& !(d9 b (ks++[k])).isEmpty):=by unfold yE;rw[q]
   rw[em]
   obtain⟨ω1,h1,hs1⟩:=l7 hs
   have cnd:(wC (bV (je sY (ci "Hand" "waiting" (aF 0)) (ai (pC .none)))) (wC (bV (je mG (nw (ci "Hand" "waiting" (aF 0)) (ai (pC (.int 2)))) (ai (pC (.tuple [(.str "chord")]))))) (bV (je mG (ib cI 1 (aB (bi "Hand" "stands" bx 1 (aF 0) a8) a8)) (ai (pC (.int 0))))))) [some (.rf 0),some (.fz (nd k))] ω= .ok (!decide (j6 p.1.ac p.1.oc=0)) ω1:=by
    have c3:bV (je mG (ib cI 1 (aB (bi "Hand" "stands" bx 1 (aF 0) a8) a8)) (ai (pC (.int 0)))) [some (.rf 0),some (.fz (nd k))] ω= .ok (!decide (j6 p.1.ac p.1.oc=0)) ω1:=
     bj (dg (vv (ds:=[cU p.1]) (aD (cr hs (by decide+kernel) rfl aZ rfl h1) aZ) rfl (nJ p.1)) (aj bC) (dj (kI _ _)))
    obtain⟨ps,J,hp,rfl⟩:=hs
    exact fP (bj (dg (cf rfl) (aj bC) (dj e1))) (fP (bj (dg (dc (cf rfl) (aj bC) e2) (aj bC) (dj ec))) c3)
   by_cases hL:j6 p.1.ac p.1.oc=0
   ·rw[decide_eq_true hL] at cnd⊢
    obtain⟨ps,J,hp,rfl⟩:=hs1
    have hn':k∉ks:=by
     rw[q] at hn
     exact of_decide_eq_false hn
    have nd':(ks++[k]).Nodup:=by
     rw[List.nodup_append]
     exact⟨v.nd,List.nodup_cons.mpr ⟨List.not_mem_nil,List.nodup_nil⟩,fun x hx y hy e=>hn' (by rw[←List.mem_singleton.mp hy,←e];exact hx)⟩
    have h6:(ks++[k]).length≤5:=vV nd' fun x hx=>by
     have h5:=vb.n5
     rcases List.mem_append.mp hx with h|h
     ·have:=v.kn x h;omega
     ·rw[List.mem_singleton.mp h];omega
    refine⟨_,jo (ρ:=[some (.rf 0),some (.fz (nd k))]) rfl (ff (ji cnd jz) (iA (xb vb (s:=p.1) (sn:=p.2) ⟨ps,J,rfl⟩ rfl h6 (dg (dc (cf rfl) (aj bC) e0) (aj (d:= .tuple [nd k]) (l4 (bp (ar rfl) cP) rfl (Nat.le_of_ble_eq_true rfl))) (dj (ye v.ne l5)))))),ps,_,hp,rfl⟩
   ·rw[decide_eq_false hL] at cnd⊢
    exact⟨ω1,jo (ρ:=[some (.rf 0),some (.fz (nd k))]) rfl (lz (hG cnd (iA (aj bC)))),hs1⟩
end
end STP
namespace STP
open PySem L2 L3 L10
section
variable {b:Bd} (vb:VB b) {s:Stn} {sn:Sn} {ps:List (Nat×Mn)} {J:bz} {ρ:cg} {i:Nat} {ω:bz} {p:Stn×Sn} {k:Nat} {a:Mn} {ks:List Nat} {g:Int} {w:Option (Nat×Int)}
include vb
theorem E6 (v:WV b p.1.ac ks g w) (hn:k∉ks) (hk:(k:Int)<b.n):(ks++[k]).Nodup∧(ks++[k]).length≤5:=by
 have nd':(ks++[k]).Nodup:=by
  rw[List.nodup_append]
  exact⟨v.nd,List.nodup_cons.mpr ⟨List.not_mem_nil,List.nodup_nil⟩,fun x hx y hy e=>hn (by rw[←List.mem_singleton.mp hy,←e];exact hx)⟩
 refine⟨nd',vV nd' fun x hx=> ?_⟩
 have h5:=vb.n5
 rcases List.mem_append.mp hx with h|h
 ·have:=v.kn x h;omega
 ·rw[List.mem_singleton.mp h];omega
theorem v8 (sw:SW b p.1) (hk:(k:Int)<b.n) (ha:p.1.ac k=none) (hn:tL p.1.wt k=false) (hm:yE b p.1 k=true):∃ks g,p.1.wt=some (ks,g,none)∧k∉ks∧WV b p.1.ac (ks++[k]) g none∧g<b.wt:=by
 unfold yE at hm
 split at hm
 ·rename_i ks g q
  rw[Bool.and_eq_true] at hm
  obtain⟨v,hg⟩:=sw.wt ks g none q
  have hn':k∉ks:=by
   rw[q] at hn
   exact of_decide_eq_false hn
  obtain⟨nd',l5⟩:=E6 vb v hn' hk
  refine⟨ks,g,q,hn',⟨by simp,nd',fun x hx=> ?_,fun x hx=> ?_,v.g0,fun c n h=>(by cases h),fun _ x hx=> ?_⟩,hg⟩
  ·rcases List.mem_append.mp hx with h|h
   ·exact v.kn x h
   ·rw[List.mem_singleton.mp h];exact hk
  ·rcases List.mem_append.mp hx with h|h
   ·exact v.kf x h
   ·rw[List.mem_singleton.mp h];exact ha
  ·have hm2:=hm.2
   cases qo:d9 b (ks++[k]) with
   |nil=>rw[qo] at hm2;cases hm2
   |cons c r=>
    have hc:c∈d9 b (ks++[k]):=by rw[qo];exact List.mem_cons_self
    obtain⟨c1,c2⟩:=List.mem_filter.mp hc
    have:=List.all_eq_true.mp c2 x hx
    exact(vb.vc c c1).2.2.1 x (of_decide_eq_true this)
 ·cases hm
theorem BV (hs:HS b p ω) (sw:SW b p.1) (hw:p.1.wt=some (ks,g,none)) (v:WV b p.1.ac (ks++[k]) g none) (v0:WV b p.1.ac ks g none) (hl:p.2.length<900):∃ω',cA [.rf 0,.fz (nd k)] ω= .ok (.fz .none) ω'∧HS b (sS b p k) ω':=by
 obtain⟨ps,J,hp,rfl⟩:=hs
 have l5:=v.len vb
 have e0:bH (ii p.1.wt) (.int 0)=some (.fz (.tuple (b3 ks))):=by rw[hw];exact iK
 have e1:bH (ii p.1.wt) (.int 1)=some (.fz (.int g)):=by rw[hw];exact hX
 have ed:sS b p k=if(d9 b (ks++[k])).map (·.1.length)=[(ks++[k]).length] then dk b ({p.1 with wt:=some (ks++[k],g,none)},p.2) else({p.1 with wt:=some (ks++[k],g,none)},p.2):=by unfold sS;rw[hw]
 have hs2:HS b ({p.1 with wt:=some (ks++[k],g,none)},p.2) (d8 b {p.1 with wt:=some (ks++[k],g,none)} p.2 ps J):=⟨ps,J,hp,rfl⟩
 have cv:bS (fM 0) jj (ai (iU h7 (ap (aY bH (ah 0) (pC (.int 0))) aJ))) ((d9 b (ks++[k])).map f6) [none] (d8 b {p.1 with wt:=some (ks++[k],g,none)} p.2 ps (J++[.dead])) []= .ok ((b3 ((d9 b (ks++[k])).map (·.1.length))).map .fz) (d8 b {p.1 with wt:=some (ks++[k],g,none)} p.2 ps (J++[.dead])):=by
  refine(jA f6 (fun c=> .fz (nd c.1.length)) _ (fun ρ=>∃o,ρ=[o]) (d9 b (ks++[k])) _ [] ⟨none,rfl⟩ ?_ ?_).trans (by unfold b3;rw[List.map_map,List.map_map];rfl)
  ·have:=List.length_filter_le (fun c:List Nat×Nat=>(ks++[k]).all fun k=>decide (k∈c.1)) b.cs
   have:=vb.c4
   show 0+(d9 b (ks++[k])).length≤_
   unfold d9
   omega
  ·rintro c _ ρ ⟨o,rfl⟩
   have i0:bH (f6 c) (.int 0)=some (.fz (.tuple (b3 c.1))):=iK
   refine⟨[some (.fz (f6 c))],rfl,rfl,aj (ρ':=bW [some (.fz (f6 c))]) (iH (rv:= .fz (nd c.1.length)) (bp (bQ (rv:= .fz (.tuple (b3 c.1))) (ar rfl) bC rfl rfl i0) cP) rfl ((kK _).trans (by rw[gC]))),_,rfl⟩
 have fi:g8 (ib bw 2 (aB (ci "Hand" "bed" (aF 0)) (aB (ai (ah 2)) a8))) [some (.rf 0),some (.fz (nd k)),some (.fz (.tuple (b3 (ks++[k]))))] (d8 b {p.1 with wt:=some (ks++[k],g,none)} p.2 ps J)= .ok ((d9 b (ks++[k])).map f6) (d8 b {p.1 with wt:=some (ks++[k],g,none)} p.2 ps (J++[.dead])):=
  (vB (rz (ds:=[bD b,.tuple (b3 (ks++[k]))]) (aD (lK rfl) (aD (aj (ar rfl)) aZ)) rfl (yl vb l5)) bK).trans (by rw[hW];rfl)
 have rt:dG (ap (iU h7 (ap (ah 2) aJ)) aJ) (bW [some (.rf 0),some (.fz (nd k)),some (.fz (.tuple (b3 (ks++[k]))))])= .ok (.ow (b3 [(ks++[k]).length]),bW [some (.rf 0),some (.fz (nd k)),some (.fz (.tuple (b3 (ks++[k]))))]):=by
  refine sG (ds:=b3 [(ks++[k]).length]) (bp (iH (rv:= .fz (nd (ks++[k]).length)) (bp (ar rfl) cP) rfl ((kK _).trans (by rw[gC]))) cP) rfl (Nat.le_of_ble_eq_true rfl)
 have cnd:bV (je dE (j8 1 [] (g8 (ib bw 2 (aB (ci "Hand" "bed" (aF 0)) (aB (ai (ah 2)) a8)))) (fM 0) jj (ai (iU h7 (ap (aY bH (ah 0) (pC (.int 0))) aJ)))) (ai (dG (ap (iU h7 (ap (ah 2) aJ)) aJ)))) [some (.rf 0),some (.fz (nd k)),some (.fz (.tuple (b3 (ks++[k]))))] (d8 b {p.1 with wt:=some (ks++[k],g,none)} p.2 ps J)= .ok (decide ((d9 b (ks++[k])).map (·.1.length)=[(ks++[k]).length])) (d8 b {p.1 with wt:=some (ks++[k],g,none)} p.2 ps (J++[.dead])++[.lst ((b3 ((d9 b (ks++[k])).map (·.1.length))).map .fz)]++[.lst ((b3 [(ks++[k]).length]).map .fz)]):=
  bj (dg (rY fi cv) (dU rt) (kg (eh (fN bK)) (eh bK) (sH _ _)))
 have hs3:HS b ({p.1 with wt:=some (ks++[k],g,none)},p.2) (d8 b {p.1 with wt:=some (ks++[k],g,none)} p.2 ps (J++[.dead])++[.lst ((b3 ((d9 b (ks++[k])).map (·.1.length))).map .fz)]++[.lst ((b3 [(ks++[k]).length]).map .fz)]):=⟨ps,_,hp,rfl⟩
 generalize (d8 b {p.1 with wt:=some (ks++[k],g,none)} p.2 ps (J++[.dead])++[.lst ((b3 ((d9 b (ks++[k])).map (·.1.length))).map .fz)]++[.lst ((b3 [(ks++[k]).length]).map .fz)]:bz)=ω3 at cnd hs3
 rw[ed]
 refine gx (ρ:=[some (.rf 0),some (.fz (nd k)),none]) rfl (cG (dg (dc (cf rfl) (aj bC) e0) (aj (d:= .tuple [nd k]) (l4 (bp (ar rfl) cP) rfl (Nat.le_of_ble_eq_true rfl))) (dj (ye v0.ne (v0.len vb)))) rfl (qJ (jM (some (ks++[k],g,none)) rfl (l6 (ds:=[.tuple (b3 (ks++[k])),.int g,me none]) (aD (aj (d:= .tuple (b3 (ks++[k]))) (ar rfl)) (aD (dc (cf rfl) (aj bC) e1) (aD (aj bC) aZ))) (Nat.le_of_ble_eq_true rfl))) (uG cnd (fun q=> ?_) fun q=> ?_)))
 ·rw[if_pos (of_decide_eq_true q)]
  obtain⟨ω4,h1,h2⟩:=jJ vb (p:=({p.1 with wt:=some (ks++[k],g,none)},p.2)) hs3 ⟨sw.sa.ac,sw.sa.oc⟩ rfl v hl
  exact gk (cr hs3 (by decide+kernel) rfl aZ rfl h1) ⟨rfl,h2⟩
 ·rw[if_neg (of_decide_eq_false q)]
  exact jH ⟨rfl,hs3⟩
theorem CJ (sw:SW b p.1) (hw:p.1.wt=some (ks,g,none)) (v:WV b p.1.ac (ks++[k]) g none) (hg:g<b.wt):SW b (sS b p k).1:=by
 have ed:sS b p k=if(d9 b (ks++[k])).map (·.1.length)=[(ks++[k]).length] then dk b ({p.1 with wt:=some (ks++[k],g,none)},p.2) else({p.1 with wt:=some (ks++[k],g,none)},p.2):=by unfold sS;rw[hw]
 rw[ed]
 split
 ·exact(ig vb (p:=({p.1 with wt:=some (ks++[k],g,none)},p.2)) ⟨sw.sa.ac,sw.sa.oc⟩ fun _ _ _ e=>by cases e;exact v).1
 ·exact⟨⟨sw.sa.ac,sw.sa.oc⟩,fun _ _ _ e=>by cases e;exact⟨v,hg⟩⟩
omit vb in
theorem xM (s:Stn) (m:Mn):(fH s m).ac=s.ac∧(fH s m).wt=s.wt:=by
 unfold fH
 split<;>exact⟨rfl,rfl⟩
omit vb in
theorem xN {m:Mn} (h:SA b s):SA b (fH s m):=by
 unfold fH
 split
 ·exact h
 ·exact⟨h.ac,fun o e=>by cases e⟩
theorem Fa (hs:HS b p ω) (sa:SA b p.1) (hw:p.1.wt=none) (hk:(k:Int)<b.n) (hl:p.2.length<900):∃ω',dQ [.rf 0,.fz (nd k)] ω= .ok (.fz .none) ω'∧HS b (BN b p k) ω':=by
 obtain⟨L0,L1⟩:=wg vb sa
 have lk:=B8 vb (k:=k) L0 L1 hk
 obtain⟨vm,nb⟩:=kN vb (k:=k) L0 L1 hk
 obtain⟨ω1,h1,hs1⟩:=l7 hs
 have h5:=vb.n5
 have eb:BN b p k=ti b (j6 p.1.ac p.1.oc) (fH p.1 (look b (j6 p.1.ac p.1.oc) k),p.2) k (look b (j6 p.1.ac p.1.oc) k):=rfl
 rw[eb]
 have ly:ib cI 1 (aB (bi "Hand" "stands" bx 1 (aF 0) a8) a8) [some (.rf 0),some (.fz (nd k)),none,none,none] ω= .ok (.fz (.int (j6 p.1.ac p.1.oc))) ω1:=vv (ds:=[cU p.1]) (aD (cr hs (by decide+kernel) rfl aZ rfl h1) aZ) rfl (nJ p.1)
 generalize j6 p.1.ac p.1.oc=L at lk vm nb ly L0 L1
 generalize look b L k=m at lk vm nb
 obtain⟨ps,J,hp,rfl⟩:=hs1
 have lb:=vm.lb
 have c0:=kU m
 have c1:=GX m
 have c2:=Eo m
 have c3:=ia m
 have c4:=De m
 have eL:dE (.int L) (.int 0)=some (.fz (.bool (decide (L=0)))):=mX _ _
 have two:(bc (cY (bM (aW (aY mU (ah 4) (c8 (ap (pC (.str "layer")) (ap (pC (.str "once")) aJ)))))) (gq "Hand" "once" (aF 0) (ai (pC .none))) dh) dh) [some (.rf 0),some (.fz (nd k)),some (.fz (.int L)),some (.fz (mD m)),some (.fz (.str (wd m)))] (d8 b p.1 p.2 ps J)= .ok (.nx [some (.rf 0),some (.fz (nd k)),some (.fz (.int L)),some (.fz (mD m)),some (.fz (.str (wd m)))]) (d8 b (fH p.1 m) p.2 ps J):=by
  have t:bM (aW (aY mU (ah 4) (c8 (ap (pC (.str "layer")) (ap (pC (.str "once")) aJ))))) [some (.rf 0),some (.fz (nd k)),some (.fz (.int L)),some (.fz (mD m)),some (.fz (.str (wd m)))] (d8 b p.1 p.2 ps J)= .ok (!(m.isLy||m.isO)) (d8 b p.1 p.2 ps J):=aU (by walk_at "ev")
  unfold fH
  cases q:(m.isLy||m.isO) with
  |true=>
   rw[q] at t
   rw[if_pos rfl]
   exact ff (ji t jz) jz
  |false=>
   rw[q] at t
   rw[if_neg Bool.false_ne_true]
   exact ff (hG t (xR none rfl (aj bC))) jz
 have ua:=xM p.1 m
 have us:SA b (fH p.1 m):=xN sa
 have hp2:ps.Perm (dJ (fH p.1 m).ac):=by rw[ua.1];exact hp
 have hs2:HS b (fH p.1 m,p.2) (d8 b (fH p.1 m) p.2 ps J):=⟨ps,J,hp2,rfl⟩
 generalize fH p.1 m=s2 at two ua us hp2 hs2
 have fin:GoS ((cY (bM (aW (aY dE (ah 4) (pC (.str "tap"))))) (gq "Hand" "waiting" (aF 0) (ai (c8 (ap (c8 (ap (ah 1) aJ)) (ap (pC (.int 0)) (ap (ah 3) aJ)))))) (cY (g6 (bM (aW (aY dE (ah 4) (pC (.str "letter"))))) (g6 (bM (aW (aY dE (ah 2) (pC (.int 0))))) (bV (je mG (ib bw 2 (aB (ci "Hand" "bed" (aF 0)) (aB (ai (c8 (ap (ah 1) aJ))) a8))) (ai (dG aJ)))))) (gq "Hand" "waiting" (aF 0) (ai (c8 (ap (c8 (ap (ah 1) aJ)) (ap (pC (.int 0)) (ap (pC (.tuple [(.str "chord")])) aJ)))))) (cY (bM (aW (aY dE (ah 4) (pC (.str "once"))))) (bc (cK (bi "Hand" "come" bt 3 (aF 0) (aB (ai (ah 1)) (aB (ai (pC (.tuple [(.str "none")]))) a8))))
 (gq "Hand" "once" (aF 0) (ai (aY bH (ah 3) (pC (.int 1)))))) (cK (bi "Hand" "come" bt 3 (aF 0) (aB (ai (ah 1)) (aB (ai (ah 3)) a8))))))) [some (.rf 0),some (.fz (nd k)),some (.fz (.int L)),some (.fz (mD m)),some (.fz (.str (wd m)))] (d8 b s2 p.2 ps J)) (fun _ ω'=>SV.fz .none= .fz .none∧HS b (ti b L (s2,p.2) k m) ω') (fun _ _=>False) (fun r ω'=>r= .fz .none∧HS b (ti b L (s2,p.2) k m) ω'):=by
  have t2:∀{ω:bz},bM (aW (aY dE (ah 4) (pC (.str "tap")))) [some (.rf 0),some (.fz (nd k)),some (.fz (.int L)),some (.fz (mD m)),some (.fz (.str (wd m)))] ω= .ok m.isT ω:=aU (by walk_at "ev")
  have t3:∀{ω:bz},bM (aW (aY dE (ah 4) (pC (.str "letter")))) [some (.rf 0),some (.fz (nd k)),some (.fz (.int L)),some (.fz (mD m)),some (.fz (.str (wd m)))] ω= .ok m.isL ω:=aU (by walk_at "ev")
  have t4:∀{ω:bz},bM (aW (aY dE (ah 4) (pC (.str "once")))) [some (.rf 0),some (.fz (nd k)),some (.fz (.int L)),some (.fz (mD m)),some (.fz (.str (wd m)))] ω= .ok m.isO ω:=aU (by walk_at "ev")
  have t5:∀{ω:bz},bM (aW (aY dE (ah 2) (pC (.int 0)))) [some (.rf 0),some (.fz (nd k)),some (.fz (.int L)),some (.fz (mD m)),some (.fz (.str (wd m)))] ω= .ok (decide (L=0)) ω:=aU (by walk_at "ev")
  have kt:∀{ω:bz},ai (c8 (ap (ah 1) aJ)) [some (.rf 0),some (.fz (nd k)),some (.fz (.int L)),some (.fz (mD m)),some (.fz (.str (wd m)))] ω= .ok (.fz (.tuple (b3 [k]))) ω:=aj (ρ':=bW [some (.rf 0),some (.fz (nd k)),some (.fz (.int L)),some (.fz (mD m)),some (.fz (.str (wd m)))]) (l4 (bp (ar rfl) cP) rfl (Nat.le_of_ble_eq_true rfl))
  have cm:∀{ω:bz},HS b (s2,p.2) ω→VA b.ls.length m→∃ω',cK (bi "Hand" "come" bt 3 (aF 0) (aB (ai (ah 1)) (aB (ai (ah 3)) a8))) [some (.rf 0),some (.fz (nd k)),some (.fz (.int L)),some (.fz (mD m)),some (.fz (.str (wd m)))] ω= .ok (.nx [some (.rf 0),some (.fz (nd k)),some (.fz (.int L)),some (.fz (mD m)),some (.fz (.str (wd m)))]) ω'∧HS b (fy (s2,p.2) k m) ω':=fun{ω} hs va=>by
   obtain⟨ω',g1,g2⟩:=nj (k:=k) (a:=m) hs (us.ak vb) va.lb (by omega) (show p.2.length<1000 by omega)
   exact⟨ω',k7 (cr hs (by decide+kernel) rfl (aD (aj (ar rfl)) (aD (aj (ar rfl)) aZ)) rfl g1),g2⟩
  cases m with
  |below=>exact absurd rfl nb
  |tap c n=>
   refine oN t2 (lc (jM (some ([k],0,some (c,n))) rfl (aj (ρ':=bW [some (.rf 0),some (.fz (nd k)),some (.fz (.int L)),some (.fz (mD (.tap c n))),some (.fz (.str (wd (.tap c n))))]) ?_)) ⟨rfl,ps,J,hp2,rfl⟩)
   show _=Res.ok (PV.fz (.tuple [.tuple [nd k],.int 0,mD (.tap c n)]),_)
   walk_at "ev"
  |letter c=>
   obtain⟨d1,d2⟩:VA b.ls.length (.letter c)∧True:=⟨vm,trivial⟩
   by_cases hL:L=0
   ·rw[decide_eq_true hL] at t5
    have ov:=xb vb (s:=s2) (sn:=p.2) (ρ:=[some (.rf 0),some (.fz (nd k)),some (.fz (.int L)),some (.fz (mD (.letter c))),some (.fz (.str (wd (.letter c))))]) (ω1:=d8 b s2 p.2 ps J) ⟨ps,J,rfl⟩ rfl (ks:=[k]) (Nat.le_of_ble_eq_true rfl) kt
    have hs4:HS b (s2,p.2) (d8 b s2 p.2 ps J++[.lst (((d9 b [k]).map f6).map .fz)]++[.lst []]):=⟨ps,_,hp2,rfl⟩
    have eb2:ti b L (s2,p.2) k (.letter c)=if(!(d9 b [k]).isEmpty)=true then({s2 with wt:=some ([k],0,none)},p.2) else fy (s2,p.2) k (.letter c):=by
     show(if(decide (L=0)&& !(d9 b [k]).isEmpty)=true then _ else _)=_
     rw[decide_eq_true hL,Bool.true_and]
    rw[eb2]
    refine eu t2 (uG (dD t3 (dD t5 (bj ov))) (fun q=> ?_) fun q=> ?_)
    ·rw[if_pos q]
     refine lc (jM (s:=s2) (ps:=ps) (J:=J++[.lst (((d9 b [k]).map f6).map .fz)]++[.lst []]) (some ([k],0,none)) rfl (aj (ρ':=bW [some (.rf 0),some (.fz (nd k)),some (.fz (.int L)),some (.fz (mD (.letter c))),some (.fz (.str (wd (.letter c))))]) ?_)) ⟨rfl,ps,_,hp2,rfl⟩
     show _=Res.ok (PV.fz (.tuple [.tuple [nd k],.int 0,.tuple [.str "chord"]]),_)
     walk_at "ev"
    ·rw[if_neg (by rw[q];simp)]
     obtain⟨ω',g1,g2⟩:=cm hs4 vm
     exact eu t4 (lc g1 ⟨rfl,g2⟩)
   ·rw[decide_eq_false hL] at t5
    have eb2:ti b L (s2,p.2) k (.letter c)=fy (s2,p.2) k (.letter c):=by
     show(if(decide (L=0)&& !(d9 b [k]).isEmpty)=true then _ else _)=_
     rw[decide_eq_false hL,Bool.false_and,if_neg Bool.false_ne_true]
    rw[eb2]
    obtain⟨ω',g1,g2⟩:=cm hs2 vm
    exact eu t2 (eu (dD t3 (c9 t5)) (eu t4 (lc g1 ⟨rfl,g2⟩)))
  |layer n=>
   obtain⟨ω',g1,g2⟩:=cm hs2 vm
   exact eu t2 (eu (c9 t3) (eu t4 (lc g1 ⟨rfl,g2⟩)))
  |none=>
   obtain⟨ω',g1,g2⟩:=cm hs2 trivial
   exact eu t2 (eu (c9 t3) (eu t4 (lc g1 ⟨rfl,g2⟩)))
  |once n=>
   obtain⟨ω',g1,g2⟩:=nj (k:=k) (a:= .none) hs2 (us.ak vb) trivial (by omega) (show p.2.length<1000 by omega)
   have i1:bH (mD (.once n)) (.int 1)=some (.fz (.int n)):=hX
   obtain⟨qs,J2,hq,rfl⟩:=g2
   refine eu t2 (eu (c9 t3) (oN t4 (qJ (k7 (cr hs2 (by decide+kernel) rfl (aD (aj (ar rfl)) (aD (aj bC) aZ)) rfl g1)) (lc (xR (some n) rfl (aj (ρ':=bW [some (.rf 0),some (.fz (nd k)),some (.fz (.int L)),some (.fz (mD (.once n))),some (.fz (.str (wd (.once n))))]) ?_)) ⟨rfl,qs,J2,hq,rfl⟩))))
   show _=Res.ok (PV.fz (.int n),_)
   exact bQ (rv:= .fz (.int n)) (ar rfl) bC rfl rfl i1
 refine gx (ρ:=[some (.rf 0),some (.fz (nd k)),none,none,none]) rfl (cG ly rfl (cG (vv (ds:=[bD b,.int L,nd k]) (aD (lK rfl) (aD (aj (ar rfl)) (aD (aj (ar rfl)) aZ))) rfl lk) rfl (cG (aj (d:= .str (wd m)) (ρ':=bW [some (.rf 0),some (.fz (nd k)),some (.fz (.int L)),some (.fz (mD m)),none]) (bQ (rv:= .fz (.str (wd m))) (ar rfl) bC rfl rfl c0)) rfl ?_)))
 refine .eq ?_ fin
 have tw:∀{f g:fu} {ρ:cg} {ω ω':bz},bc f dh ρ ω= .ok (.nx ρ) ω'→bc f g ρ ω=g ρ ω':=fun{f g ρ ω ω'} h=>by
  unfold bc at h⊢
  cases q:f ρ ω with
  |bad=>rw[q] at h;cases h
  |er x o=>rw[q] at h;cases h
  |ok fl o=>
   rw[q] at h
   cases fl with
   |nx r=>cases h;rfl
   |_=>cases h
 exact tw two
end
end STP
namespace STP
open PySem L2 L3 L10
section
variable {b:Bd} (vb:VB b) {s:Stn} {sn:Sn} {ps:List (Nat×Mn)} {J:bz} {ρ:cg} {i:Nat} {ω:bz} {p:Stn×Sn} {k:Nat} {a:Mn} {ks:List Nat} {g:Int} {w:Option (Nat×Int)}
include vb
omit vb in
theorem yj (h:SA b s) (hw:s.wt=none):SW b s:=⟨h,fun _ _ _ e=>by rw[hw] at e;cases e⟩
theorem Fd (sa:SA b p.1) (hw:p.1.wt=none) (hk:(k:Int)<b.n) (ha:p.1.ac k=none):SW b (BN b p k).1:=by
 obtain⟨L0,L1⟩:=wg vb sa
 obtain⟨vm,nb⟩:=kN vb (k:=k) L0 L1 hk
 have eb:BN b p k=ti b (j6 p.1.ac p.1.oc) (fH p.1 (look b (j6 p.1.ac p.1.oc) k),p.2) k (look b (j6 p.1.ac p.1.oc) k):=rfl
 rw[eb]
 generalize j6 p.1.ac p.1.oc=L at vm nb L0 L1
 generalize look b L k=m at vm nb
 have ua:=xM p.1 m
 have us:SA b (fH p.1 m):=xN sa
 have hw2:(fH p.1 m).wt=none:=ua.2.trans hw
 have ha2:(fH p.1 m).ac k=none:=by rw[ua.1];exact ha
 generalize fH p.1 m=s2 at us hw2 ha2
 have w1:=vb.w1
 have n1:[k].Nodup:=List.nodup_cons.mpr ⟨List.not_mem_nil,List.nodup_nil⟩
 have kn:∀x∈[k],(x:Int)<b.n:=fun x hx=>by rw[List.mem_singleton.mp hx];exact hk
 have kf:∀x∈[k],s2.ac x=none:=fun x hx=>by rw[List.mem_singleton.mp hx];exact ha2
 have cm:∀m,VA b.ls.length m→SW b (fy (s2,p.2) k m).1:=fun m va=>yj (us.cm (p:=(s2,p.2)) hk va) hw2
 cases m with
 |below=>exact absurd rfl nb
 |tap c n=>
  refine⟨⟨us.ac,us.oc⟩,fun _ _ _ e=> ?_⟩
  cases e
  exact⟨⟨by simp,n1,kn,kf,Int.le_refl _,fun c' n' e=>by cases e;exact⟨vm.1,vm.2,rfl⟩,fun e=>by cases e⟩,by omega⟩
 |letter c=>
  show SW b (if(decide (L=0)&& !(d9 b [k]).isEmpty)=true then({s2 with wt:=some ([k],0,none)},p.2) else fy (s2,p.2) k (.letter c)).1
  split
  ·rename_i q
   refine⟨⟨us.ac,us.oc⟩,fun _ _ _ e=> ?_⟩
   cases e
   refine⟨⟨by simp,n1,kn,kf,Int.le_refl _,fun c' n' e=>(by cases e),fun _ x hx=> ?_⟩,by omega⟩
   have q2:=(Bool.and_eq_true _ _▸q:_∧_).2
   cases qo:d9 b [k] with
   |nil=>rw[qo] at q2;cases q2
   |cons c r=>
    have hc:c∈d9 b [k]:=by rw[qo];exact List.mem_cons_self
    obtain⟨c1,c2⟩:=List.mem_filter.mp hc
    exact(vb.vc c c1).2.2.1 x (of_decide_eq_true (List.all_eq_true.mp c2 x hx))
  ·exact cm _ vm
 |layer n=>exact cm _ vm
 |none=>exact cm _ trivial
 |once n=>
  have h:=cm .none trivial
  exact⟨⟨h.sa.ac,fun o e=>by cases e;exact vm⟩,fun ks g w e=>by
   have e:s2.wt=some (ks,g,w):=e
   rw[hw2] at e;cases e⟩
theorem SW.wd (h:SW b s):WD b s:=fun ks g w e=>(h.wt ks g w e).1
omit vb in
theorem wE (qs:List (Nat×Mn)):∀{p:Stn×Sn},p.1.ac k=none→k∉qs.map (·.1)→(iG p qs).1.ac k=none:=by
 induction qs with
 |nil=>exact fun h _=>h
 |cons q r ih=>
  intro p h hn
  rw[List.map_cons,List.mem_cons,not_or] at hn
  exact ih (p:=fy p q.1 q.2) ((fV hn.1).trans h) hn.2
omit vb in
theorem vG (ha:p.1.ac k=none) (hn:tL p.1.wt k=false):(dk b p).1.ac k=none:=by
 unfold dk
 split
 ·exact ha
 ·rename_i ks g w q
  refine wE _ (p:=({p.1 with wt:=none},p.2)) ha fun z=> ?_
  rw[q] at hn
  obtain⟨x,h1,rfl⟩:=List.mem_map.mp z
  exact of_decide_eq_false hn (List.of_mem_zip h1).1
theorem BH (sw:SW b p.1) (hk:(k:Int)<b.n):SW b (gD b p k).1:=by
 unfold gD
 split
 ·exact sw
 ·rename_i q
  rw[Bool.or_eq_true,not_or] at q
  have ha:p.1.ac k=none:=by
   cases z:p.1.ac k with
   |none=>rfl
   |some x=>rw[z] at q;exact absurd rfl q.1
  have hn:tL p.1.wt k=false:=by
   cases z:tL p.1.wt k with
   |false=>rfl
   |true=>exact absurd z q.2
  split
  ·rename_i qm
   obtain⟨ks,g,e1,e2,e3,e4⟩:=v8 vb sw hk ha hn qm
   exact CJ vb sw e1 e3 e4
  ·have d:=ig vb (p:=p) sw.sa (SW.wd vb sw)
   exact Fd vb d.1.sa d.2.1 hk (vG ha hn)
theorem Au (hs:HS b p ω) (sw:SW b p.1) (hk:(k:Int)<b.n) (hl:p.2.length<800):∃ω',eD [.rf 0,.fz (nd k)] ω= .ok (.fz .none) ω'∧HS b (gD b p k) ω':=by
 have h5:=vb.n5
 have hk5:k<5:=by omega
 have c1:wC (bV (oi false (ai (ah 1)) (ci "Hand" "acts" (aF 0)))) (bV (bi "Hand" "is_waiting" bG 2 (aF 0) (aB (ai (ah 1)) a8))) [some (.rf 0),some (.fz (nd k))] ω= .ok ((p.1.ac k).isSome||tL p.1.wt k) ω:=by
  have m1:=cr (ρ:=[some (.rf 0),some (.fz (nd k))]) (i:=0) (m:= "is_waiting") (fa:=aB (ai (ah 1)) a8) hs (by decide+kernel) rfl (aD (aj (ar rfl)) aZ) rfl (Be (k:=k) hs)
  obtain⟨ps,J,hp,rfl⟩:=hs
  have d1:oi false (ai (ah 1)) (ci "Hand" "acts" (aF 0)) [some (.rf 0),some (.fz (nd k))] (d8 b p.1 p.2 ps J)= .ok (.fz (.bool (p.1.ac k).isSome)) (d8 b p.1 p.2 ps J):=
   (kj (aj (d:=nd k) (ar rfl)) (gm rfl) rfl rfl).trans (by
    rw[show gU (ps.map fU) (.inl (k:Int))=_ from gK hp hk5]
    cases p.1.ac k<;>rfl)
  cases q:(p.1.ac k).isSome with
  |true=>rw[q] at d1;rw[Bool.true_or];exact oh (bj d1)
  |false=>rw[q] at d1;rw[Bool.false_or];exact fP (bj d1) (bj m1)
 refine gx (ρ:=[some (.rf 0),some (.fz (nd k))]) rfl (uR c1 (fun q=> ?_) fun q=>dr ?_)
 ·unfold gD
  rw[if_pos q]
  exact rh ⟨rfl,hs⟩
 rw[Bool.or_eq_false_iff] at q
 have ha:p.1.ac k=none:=by
  cases z:p.1.ac k with
  |none=>rfl
  |some x=>rw[z] at q;exact absurd q.1 (by simp)
 have ep:gD b p k=if yE b p.1 k=true then sS b p k else BN b (dk b p) k:=by
  unfold gD
  rw[if_neg (by rw[q.1,q.2];simp)]
 rw[ep]
 obtain⟨ω1,m2,hs1⟩:=Fu vb hs sw hk q.2
 refine uR (bj (cr hs (by decide+kernel) rfl (aD (aj (ar rfl)) aZ) rfl m2)) (fun qm=> ?_) fun qm=>dr ?_
 ·rw[if_pos qm]
  obtain⟨ks,g,e1,e2,e3,e4⟩:=v8 vb sw hk ha q.2 qm
  obtain⟨ω2,h2,hs2⟩:=BV vb hs1 sw e1 e3 (sw.wt _ _ _ e1).1 (by omega)
  exact lF (gI (cr hs1 (by decide+kernel) rfl (aD (aj (ar rfl)) aZ) rfl h2) (rh ⟨rfl,hs2⟩))
 ·rw[if_neg (by rw[qm];simp)]
  have d:=ig vb (p:=p) sw.sa (SW.wd vb sw)
  have bg:∀ω2,HS b (dk b p) ω2→GoS (cK (bi "Hand" "begin" dQ 2 (aF 0) (aB (ai (ah 1)) a8)) [some (.rf 0),some (.fz (nd k))] ω2) (fun _ ω'=>SV.fz .none= .fz .none∧HS b (BN b (dk b p) k) ω') (fun _ _=>False) (fun r ω'=>r= .fz .none∧HS b (BN b (dk b p) k) ω'):=fun ω2 hs2=>by
   obtain⟨ω3,h3,hs3⟩:=Fa vb hs2 d.1.sa d.2.1 hk (by have:=d.2.2.1;omega)
   exact gk (cr hs2 (by decide+kernel) rfl (aD (aj (ar rfl)) aZ) rfl h3) ⟨rfl,hs3⟩
  cases qw:p.1.wt with
  |none=>
   have ed:dk b p=p:=by unfold dk;rw[qw]
   have e1:oC (ii p.1.wt) .none=some (.fz (.bool false)):=by rw[qw];rfl
   have bg':=bg ω1 (by rw[ed];exact hs1)
   obtain⟨ps,J,hp,rfl⟩:=hs1
   exact dL (bj (dg (cf rfl) (aj bC) (dj e1))) (dr bg')
  |some x=>
   obtain⟨ks,g,w⟩:=x
   have e1:oC (ii p.1.wt) .none=some (.fz (.bool true)):=by rw[qw];rfl
   obtain⟨ω2,h2,hs2⟩:=jJ vb hs1 sw.sa qw (sw.wt _ _ _ qw).1 (by omega)
   have m3:=cr (ρ:=[some (.rf 0),some (.fz (nd k))]) (i:=0) (m:= "decide") (fa:=a8) hs1 (by decide+kernel) rfl aZ rfl h2
   obtain⟨ps,J,hp,rfl⟩:=hs1
   exact iY (bj (dg (cf rfl) (aj bC) (dj e1))) (gI m3 (bg ω2 hs2))
theorem l9 (sw:SW b p.1) (hw:tL p.1.wt k=true):SW b (dM b p k).1∧(dM b p k).2.length≤p.2.length+5:=by
 unfold dM
 split
 ·have d:=ig vb (p:=p) sw.sa (SW.wd vb sw)
  exact⟨d.1,d.2.2.1⟩
 ·rename_i ks g c n q
  have v:=(sw.wt _ _ _ q).1
  rw[q] at hw
  have hk:=v.kn k (of_decide_eq_true hw)
  have hc:c<26:=(v.tp c n rfl).1
  refine⟨yj (SA.cm (p:=({p.1 with wt:=none},p.2)) ⟨sw.sa.ac,sw.sa.oc⟩ hk hc) rfl,?_⟩
  have:=pB (p:=({p.1 with wt:=none},p.2)) (k:=k) (a:= .letter c)
  have:(fy ({p.1 with wt:=none},p.2) k (.letter c)).2.length≤p.2.length+1:=this
  omega
 ·exact⟨sw,Nat.le_add_right _ _⟩
theorem g9 (hs:HS b p ω) (sw:SW b p.1) (hw:tL p.1.wt k=true) (hl:p.2.length<800):∃ω',dX [.rf 0,.fz (nd k)] ω= .ok (.fz .none) ω'∧HS b (dM b p k) ω':=by
 have h5:=vb.n5
 cases q:p.1.wt with
 |none=>rw[q] at hw;cases hw
 |some x=>
  obtain⟨ks,g,w⟩:=x
  have v:=(sw.wt _ _ _ q).1
  have hki:k∈ks:=by rw[q] at hw;exact of_decide_eq_true hw
  have e2:bH (ii p.1.wt) (.int 2)=some (.fz (me w)):=by rw[q];exact pM
  have ec:=(vT (w:=w) fun c n h=>(v.tp c n h).1).1
  have t1:∀{ω:bz},bM (aW (aY dE (ah 2) (pC (.tuple [.str "chord"])))) [some (.rf 0),some (.fz (nd k)),some (.fz (me w))] ω= .ok w.isNone ω:=aU (ρ':=bW [some (.rf 0),some (.fz (nd k)),some (.fz (me w))]) (eC (bQ (rv:= .fz (.bool w.isNone)) (ar rfl) bC rfl rfl ec) rfl)
  cases w with
  |none=>
   have es:dM b p k=dk b p:=by unfold dM;rw[q]
   rw[es]
   obtain⟨ω2,h2,hs2⟩:=jJ vb hs sw.sa q v (by omega)
   have m3:=cr (ρ:=[some (.rf 0),some (.fz (nd k)),some (.fz (me none))]) (i:=0) (m:= "decide") (fa:=a8) hs (by decide+kernel) rfl aZ rfl h2
   obtain⟨ps,J,hp,rfl⟩:=hs
   exact gx (ρ:=[some (.rf 0),some (.fz (nd k)),none]) rfl (cG (dc (cf rfl) (aj bC) e2) rfl (oN t1 (gk m3 ⟨rfl,hs2⟩)))
  |some cn=>
   obtain⟨c,n⟩:=cn
   have es:dM b p k=fy ({p.1 with wt:=none},p.2) k (.letter c):=by unfold dM;rw[q]
   rw[es]
   have hc:c<26:=(v.tp c n rfl).1
   have hk:=v.kn k hki
   obtain⟨ps,J,hp,rfl⟩:=hs
   have hs1:HS b ({p.1 with wt:=none},p.2) (d8 b {p.1 with wt:=none} p.2 ps J):=⟨ps,J,hp,rfl⟩
   obtain⟨ω2,h2,hs2⟩:=nj (k:=k) (a:= .letter c) hs1 (SA.ak vb (s:={p.1 with wt:=none}) ⟨sw.sa.ac,sw.sa.oc⟩) hc (by omega) (show p.2.length<1000 by omega)
   have i1:bH (me (some (c,n))) (.int 1)=some (.fz (.str (jN c))):=hX
   exact gx (ρ:=[some (.rf 0),some (.fz (nd k)),none]) rfl (cG (dc (cf rfl) (aj bC) e2) rfl (eu t1 (qJ (jM none rfl (aj bC)) (gk (cr hs1 (by decide+kernel) rfl (aD (aj (ar rfl)) (aD (aj (d:=mD (.letter c)) (ρ':=bW [some (.rf 0),some (.fz (nd k)),some (.fz (me (some (c,n))))]) (l4 (bp bC (bp (bQ (rv:= .fz (.str (jN c))) (ar rfl) bC rfl rfl i1) cP)) rfl (Nat.le_of_ble_eq_true rfl))) aZ)) rfl h2) ⟨rfl,hs2⟩))))
omit vb in
theorem Dy (sw:SW b p.1):SW b (go p k).1:=by
 refine⟨sw.sa.gg,?_⟩
 unfold go
 split
 ·intro ks g w e
  obtain⟨v,hg⟩:=sw.wt ks g w e
  exact⟨⟨v.ne,v.nd,v.kn,fun x hx=>by
   by_cases z:x=k
   ·rw[z];exact eJ
   ·exact(fV z).trans (v.kf x hx),v.g0,v.tp,v.ch⟩,hg⟩
 ·exact sw.wt
theorem Cs (sw:SW b p.1):SW b (lO b p k).1:=by
 unfold lO
 split
 ·rename_i q
  exact Dy (l9 vb sw q).1
 ·exact Dy sw
theorem CL (hs:HS b p ω) (sw:SW b p.1) (hk:(k:Int)<b.n) (hl:p.2.length<700):∃ω',eU [.rf 0,.fz (nd k)] ω= .ok (.fz .none) ω'∧HS b (lO b p k) ω':=by
 have h5:=vb.n5
 have hk5:k<5:=by omega
 have two:∀{p:Stn×Sn} {ω:bz},HS b p ω→SW b p.1→p.2.length<800→GoS (cY (bV (oi false (ai (ah 1)) (ci "Hand" "acts" (aF 0)))) (cK (bi "Hand" "go" fA 2 (aF 0) (aB (ai (ah 1)) a8))) dh [some (.rf 0),some (.fz (nd k))] ω) (fun _ ω'=>SV.fz .none= .fz .none∧HS b (go p k) ω') (fun _ _=>False) (fun r ω'=>r= .fz .none∧HS b (go p k) ω'):=fun{p ω} hs sw hl=>by
  cases qa:p.1.ac k with
  |none=>
   have eg:go p k=p:=by unfold go;rw[qa]
   rw[eg]
   obtain⟨ps,J,hp,rfl⟩:=hs
   refine eu (bj ((kj (aj (d:=nd k) (ar rfl)) (gm rfl) rfl rfl).trans (by
    rw[show gU (ps.map fU) (.inl (k:Int))=_ from gK hp hk5,qa]
    rfl))) (jH ⟨rfl,ps,J,hp,rfl⟩)
  |some a=>
   obtain⟨ω2,h2,hs2⟩:=GR hs (sw.sa.ak vb) qa (by omega)
   have m3:=cr (ρ:=[some (.rf 0),some (.fz (nd k))]) (i:=0) (m:= "go") (fa:=aB (ai (ah 1)) a8) hs (by decide+kernel) rfl (aD (aj (ar rfl)) aZ) rfl h2
   obtain⟨ps,J,hp,rfl⟩:=hs
   exact oN (bj ((kj (aj (d:=nd k) (ar rfl)) (gm rfl) rfl rfl).trans (by
    rw[show gU (ps.map fU) (.inl (k:Int))=_ from gK hp hk5,qa]
    rfl))) (gk m3 ⟨rfl,hs2⟩)
 refine gx (ρ:=[some (.rf 0),some (.fz (nd k))]) rfl (uR (bj (cr hs (by decide+kernel) rfl (aD (aj (ar rfl)) aZ) rfl (Be (k:=k) hs))) (fun q=> ?_) fun q=> ?_)
 ·unfold lO
  rw[if_pos q]
  obtain⟨ω1,h1,hs1⟩:=g9 vb hs sw q (by omega)
  have z:=l9 vb sw q
  exact gI (cr hs (by decide+kernel) rfl (aD (aj (ar rfl)) aZ) rfl h1) (two hs1 z.1 (by omega))
 ·unfold lO
  rw[if_neg (by rw[q];simp)]
  exact dr (two hs sw (by omega))
theorem Dl (sw:SW b p.1):SW b (jW b p).1:=by
 unfold jW
 split
 ·exact sw
 ·rename_i ks g w q
  obtain⟨v,hg⟩:=sw.wt ks g w q
  have v':WV b p.1.ac ks (g+1) w:=⟨v.ne,v.nd,v.kn,v.kf,by have:=v.g0;omega,v.tp,v.ch⟩
  split
  ·exact(ig vb (p:=({p.1 with wt:=some (ks,g+1,w)},p.2)) ⟨sw.sa.ac,sw.sa.oc⟩ fun _ _ _ e=>by cases e;exact v').1
  ·rename_i h
   exact⟨⟨sw.sa.ac,sw.sa.oc⟩,fun _ _ _ e=>by cases e;exact⟨v',by omega⟩⟩
theorem C6 (hs:HS b p ω) (sw:SW b p.1) (hl:p.2.length<800):∃ω',dC [.rf 0] ω= .ok (.fz .none) ω'∧HS b (jW b p) ω':=by
 obtain⟨ps,J,hp,rfl⟩:=hs
 cases q:p.1.wt with
 |none=>
  have ew:jW b p=p:=by unfold jW;rw[q]
  rw[ew]
  have e1:sY (ii p.1.wt) .none=some (.fz (.bool true)):=by rw[q];rfl
  exact gx (ρ:=[some (.rf 0),none]) rfl (iY (bj (dg (cf rfl) (aj bC) (dj e1))) (rh ⟨rfl,ps,J,hp,rfl⟩))
 |some x=>
  obtain⟨ks,g,w⟩:=x
  have v:=(sw.wt _ _ _ q).1
  have v':WV b p.1.ac ks (g+1) w:=⟨v.ne,v.nd,v.kn,v.kf,by have:=v.g0;omega,v.tp,v.ch⟩
  have ew:jW b p=if g+1=b.wt then dk b ({p.1 with wt:=some (ks,g+1,w)},p.2) else({p.1 with wt:=some (ks,g+1,w)},p.2):=by unfold jW;rw[q]
  rw[ew]
  have e1:sY (ii p.1.wt) .none=some (.fz (.bool false)):=by rw[q];rfl
  have e0:bH (ii p.1.wt) (.int 0)=some (.fz (.tuple (b3 ks))):=by rw[q];exact iK
  have e2:bH (ii p.1.wt) (.int 2)=some (.fz (me w)):=by rw[q];exact pM
  have e3:bH (ii p.1.wt) (.int 1)=some (.fz (.int g)):=by rw[q];exact hX
  have e4:bH (bD b) (.int 3)=some (.fz (.int b.wt)):=F7 (i:=3) rfl
  have hs1:HS b ({p.1 with wt:=some (ks,g+1,w)},p.2) (d8 b {p.1 with wt:=some (ks,g+1,w)} p.2 ps J):=⟨ps,J,hp,rfl⟩
  refine gx (ρ:=[some (.rf 0),none]) rfl (dL (bj (dg (cf rfl) (aj bC) (dj e1))) (dr (cG (dg (dc (cf rfl) (aj bC) e3) (aj bC) (dj (ky _ _))) rfl (qJ (jM (some (ks,g+1,w)) rfl (l6 (ds:=[.tuple (b3 ks),.int (g+1),me w]) (aD (dc (cf rfl) (aj bC) e0) (aD (aj (ar rfl)) (aD (dc (cf rfl) (aj bC) e2) aZ))) (Nat.le_of_ble_eq_true rfl))) (uG (bj (dg (aj (d:= .int (g+1)) (ar rfl)) (dc (lK rfl) (aj bC) e4) (dj (mX _ _)))) (fun z=> ?_) fun z=> ?_)))))
  ·rw[if_pos (of_decide_eq_true z)]
   obtain⟨ω2,h2,hs2⟩:=jJ vb hs1 (p:=({p.1 with wt:=some (ks,g+1,w)},p.2)) ⟨sw.sa.ac,sw.sa.oc⟩ rfl v' (show p.2.length<900 by omega)
   exact gk (cr hs1 (by decide+kernel) rfl aZ rfl h2) ⟨rfl,hs2⟩
  ·rw[if_neg (of_decide_eq_false z)]
   exact jH ⟨rfl,hs1⟩
noncomputable def Evn.isTurn:Evn→Bool
 | .turn=>true
 |_=>false
noncomputable def Evn.isDown:Evn→Bool
 | .down _=>true
 |_=>false
def EV (b:Bd):Evn→Prop
 | .down k=>(k:Int)<b.n
 | .up k=>(k:Int)<b.n
 | .turn=>True
theorem rO {e:Evn} (sw:SW b s) (he:EV b e):SW b (cW b s e).1:=by
 cases e with
 |down k=>exact BH vb (p:=(s,[])) sw he
 |up k=>exact Cs vb (p:=(s,[])) sw
 |turn=>exact Dl vb (p:=(s,[])) sw
omit vb in
theorem p8:∀l:List (Nat×Mn),aL om (l.map pD)=some (l.map fU)
 |[]=>rfl
 |q::r=>by
  rw[List.map_cons]
  unfold aL
  rw[p8 r]
  rfl
omit vb in
theorem ur:∀(l acc:List (Nat×Mn)),((acc++l).map (·.1)).Nodup→ja (acc.map fU) (l.map fU)=(acc++l).map fU
 |[],acc,_=>by rw[List.append_nil];rfl
 |q::r,acc,h=>by
  have hn:∀x∈acc,x.1≠q.1:=fun x hx e=>by
   rw[List.map_append,List.nodup_append] at h
   exact h.2.2 _ (List.mem_map.mpr ⟨x,hx,rfl⟩) q.1 List.mem_cons_self e
  have e1:iE (acc.map fU) (fU q).1 (fU q).2=(acc++[q]).map fU:=by
   unfold iE
   rw[if_neg ?_,List.map_append]
   ·rfl
   ·intro z
    obtain⟨kv,h1,h2⟩:=List.any_eq_true.mp z
    obtain⟨x,h3,rfl⟩:=List.mem_map.mp h1
    have:=Sum.inl.inj (of_decide_eq_true h2)
    exact hn x h3 (by omega)
  show ja (iE (acc.map fU) (fU q).1 (fU q).2) (r.map fU)=_
  rw[e1,ur r (acc++[q]) (by rw[List.append_assoc];exact h),List.append_assoc]
  rfl
omit vb in
theorem CS:cQ [.rf 0,.fz (bD b),.fz (cU s)] [.obj "Hand" []]= .ok (.fz .none) (d8 b s [] (dJ s.ac) []):=by
 have e0:bH (cU s) (.int 0)=some (.fz (.tuple ((dJ s.ac).map pD))):=iK
 have e1:bH (cU s) (.int 1)=some (.fz (ii s.wt)):=hX
 have e2:bH (cU s) (.int 2)=some (.fz (pJ s.oc)):=pM
 have p0:eK "bed" (.fz (bD b)) []=([("bed",.fz (bD b))]:List (Str×SV)):=rfl
 have p1:eK "acts" (.rf 1) ([("bed",.fz (bD b))]:List (Str×SV))=([("bed",.fz (bD b)),("acts",.rf 1)]:List (Str×SV)):=by
  unfold eK;rw[if_neg (by decide+kernel)];rfl
 have p2:eK "waiting" (.fz (ii s.wt)) ([("bed",.fz (bD b)),("acts",.rf 1)]:List (Str×SV))=([("bed",.fz (bD b)),("acts",.rf 1),("waiting",.fz (ii s.wt))]:List (Str×SV)):=by
  unfold eK;rw[if_neg (by decide+kernel)];unfold eK;rw[if_neg (by decide+kernel)];rfl
 have p3:eK "once" (.fz (pJ s.oc)) ([("bed",.fz (bD b)),("acts",.rf 1),("waiting",.fz (ii s.wt))]:List (Str×SV))=([("bed",.fz (bD b)),("acts",.rf 1),("waiting",.fz (ii s.wt)),("once",.fz (pJ s.oc))]:List (Str×SV)):=by
  unfold eK;rw[if_neg (by decide+kernel)];unfold eK;rw[if_neg (by decide+kernel)];unfold eK;rw[if_neg (by decide+kernel)];rfl
 have p4:eK "sent" (.rf 2) ([("bed",.fz (bD b)),("acts",.rf 1),("waiting",.fz (ii s.wt)),("once",.fz (pJ s.oc))]:List (Str×SV))=pQ b s:=by
  unfold eK;rw[if_neg (by decide+kernel)];unfold eK;rw[if_neg (by decide+kernel)];unfold eK;rw[if_neg (by decide+kernel)];unfold eK;rw[if_neg (by decide+kernel)];rfl
 have mg:ja [] ((dJ s.ac).map fU)=(dJ s.ac).map fU:=ur (dJ s.ac) [] (on s.ac)
 have n2:∀{x:SV} {ρ:cg} {fs:List (Str×SV)} {ω:bz} {fe:cB} {f:Str} {c:Cell} {ω1:bz},ρ[0]? =some (some (.rf 0))→fe ρ ω= .ok x (.obj "Hand" fs::ω1)→fs.length<100→gq "Hand" f (aF 0) fe ρ ω= .ok (.nx ρ) (.obj "Hand" (eK f x fs)::ω1):=fun h he hl=>(vA he (bR h) rfl hl).trans rfl
 have ha:uD (ai (aY bH (ah 2) (pC (.int 0)))) [some (.rf 0),some (.fz (bD b)),some (.fz (cU s))] [.obj "Hand" ([("bed",.fz (bD b))]:List (Str×SV))]= .ok (.rf 1) [.obj "Hand" ([("bed",.fz (bD b))]:List (Str×SV)),.dct ((dJ s.ac).map fU)]:=
  (BW (aj (d:= .tuple ((dJ s.ac).map pD)) (bQ (rv:= .fz (.tuple ((dJ s.ac).map pD))) (ar rfl) bC rfl rfl e0)) (p8 _)).trans (by rw[mg];rfl)
 refine k6 (ρ:=[some (.rf 0),some (.fz (bD b)),some (.fz (cU s))]) (ρ1:=[some (.rf 0),some (.fz (bD b)),some (.fz (cU s))]) rfl (ff (n2 rfl (c:= .dead) (aj (d:=bD b) (ar rfl)) (Nat.le_of_ble_eq_true rfl)) (ff (n2 rfl (c:= .dead) ha (Nat.le_of_ble_eq_true rfl)) (ff (n2 rfl (c:= .dead) (aj (d:=ii s.wt) (bQ (rv:= .fz (ii s.wt)) (ar rfl) bC rfl rfl e1)) (Nat.le_of_ble_eq_true rfl)) (ff (n2 rfl (c:= .dead) (aj (d:=pJ s.oc) (bQ (rv:= .fz (pJ s.oc)) (ar rfl) bC rfl rfl e2)) (Nat.le_of_ble_eq_true rfl)) ?_))))
 rw[p1,p2,p3]
 refine(n2 (fs:=([("bed",.fz (bD b)),("acts",.rf 1),("waiting",.fz (ii s.wt)),("once",.fz (pJ s.oc))]:List (Str×SV))) rfl (c:= .dead) (dU (ds:=[]) (sG cP rfl (Nat.zero_le _))) (Nat.le_of_ble_eq_true rfl)).trans ?_
 show RS.ok _ (Cell.obj "Hand" (eK "sent" (.rf 2) ([("bed",.fz (bD b)),("acts",.rf 1),("waiting",.fz (ii s.wt)),("once",.fz (pJ s.oc))]:List (Str×SV)))::_)=_
 rw[p4]
 rfl
omit vb in
theorem C8 (e:Evn):∃x:Str,bH (cV e) (.int 0)=some (.fz (.str x))∧dE (.str x) (.str "turn")=some (.fz (.bool (e.isTurn)))∧dE (.str x) (.str "down")=some (.fz (.bool (e.isDown))):=by
 have o1:PyData.strOk "down"=true:=by decide+kernel
 have o2:PyData.strOk "up"=true:=by decide+kernel
 have o3:PyData.strOk "turn"=true:=by decide+kernel
 cases e with
 |down k=>exact⟨"down",iK,mq o1 o3 (by decide+kernel),uI o1⟩
 |up k=>exact⟨"up",iK,mq o2 o3 (by decide+kernel),mq o2 o1 (by decide+kernel)⟩
 |turn=>exact⟨"turn",iK,uI o3,mq o3 o1 (by decide+kernel)⟩
theorem Co {e:Evn} (sw:SW b s) (he:EV b e):∃ω',gS [.fz (bD b),.fz (cU s),.fz (cV e)] []= .ok (.tp [.rf 2,.fz (cU (cW b s e).1)]) ω'∧sh ω' (.rf 2)=some (.list ((cW b s e).2.map fq)):=by
 have hs0:HS b (s,[]) (d8 b s [] (dJ s.ac) []):=⟨dJ s.ac,[],.refl _,rfl⟩
 obtain⟨x,w0,w1,w2⟩:=C8 e
 have t1:∀{ω:bz},bM (aW (aY dE (aY bH (ah 2) (pC (.int 0))) (pC (.str "turn")))) [some (.fz (bD b)),some (.fz (cU s)),some (.fz (cV e)),some (.rf 0)] ω= .ok (e.isTurn) ω:=aU (ρ':=bW [some (.fz (bD b)),some (.fz (cU s)),some (.fz (cV e)),some (.rf 0)]) (eC (bQ (rv:= .fz (.bool (e.isTurn))) (bQ (rv:= .fz (.str x)) (ar rfl) bC rfl rfl w0) bC rfl rfl w1) rfl)
 have t2:∀{ω:bz},bM (aW (aY dE (aY bH (ah 2) (pC (.int 0))) (pC (.str "down")))) [some (.fz (bD b)),some (.fz (cU s)),some (.fz (cV e)),some (.rf 0)] ω= .ok (e.isDown) ω:=aU (ρ':=bW [some (.fz (bD b)),some (.fz (cU s)),some (.fz (cV e)),some (.rf 0)]) (eC (bQ (rv:= .fz (.bool (e.isDown))) (bQ (rv:= .fz (.str x)) (ar rfl) bC rfl rfl w0) bC rfl rfl w2) rfl)
 have fin:∀{ω:bz},HS b (cW b s e) ω→GoS (gi (gO (aB (ci "Hand" "sent" (aF 3)) (aB (bi "Hand" "stands" bx 1 (aF 3) a8) a8))) [some (.fz (bD b)),some (.fz (cU s)),some (.fz (cV e)),some (.rf 0)] ω) (fun _ ω'=>SV.fz .none= .tp [.rf 2,.fz (cU (cW b s e).1)]∧sh ω' (.rf 2)=some (.list ((cW b s e).2.map fq))) (fun _ _=>False) (fun r ω'=>r= .tp [.rf 2,.fz (cU (cW b s e).1)]∧sh ω' (.rf 2)=some (.list ((cW b s e).2.map fq))):=fun{ω} hs=>by
  obtain⟨ω1,h1,hs1⟩:=l7 hs
  have m:=cr (ρ:=[some (.fz (bD b)),some (.fz (cU s)),some (.fz (cV e)),some (.rf 0)]) (i:=3) (m:= "stands") (fa:=a8) hs (by decide+kernel) rfl aZ rfl h1
  obtain⟨ps,J,hp,rfl⟩:=hs
  obtain⟨qs,J2,hq,rfl⟩:=hs1
  exact nX (z9 (aD (sK rfl) (aD m aZ)) (Nat.le_of_ble_eq_true rfl) rfl rfl) ⟨rfl,eh rfl⟩
 have mk:qN "Hand" cQ 3 (aB (ai (ah 0)) (aB (ai (ah 1)) a8)) [some (.fz (bD b)),some (.fz (cU s)),some (.fz (cV e)),none] []= .ok (.rf 0) (d8 b s [] (dJ s.ac) []):=EG (aD (aj (ar rfl)) (aD (aj (ar rfl)) aZ)) rfl CS
 refine gx (ρ:=[some (.fz (bD b)),some (.fz (cU s)),some (.fz (cV e)),none]) rfl (cG mk rfl ?_)
 show GoS (bc _ _ [some (.fz (bD b)),some (.fz (cU s)),some (.fz (cV e)),some (.rf 0)] _) _ _ _
 cases e with
 |turn=>
  obtain⟨ω1,h1,hs1⟩:=C6 vb (p:=(s,[])) hs0 sw (show 0<800 by decide)
  exact iY t1 (gI (cr hs0 (by decide+kernel) rfl aZ rfl h1) (fin hs1))
 |down k=>
  obtain⟨ω1,h1,hs1⟩:=Au vb (p:=(s,[])) hs0 sw he (show 0<800 by decide)
  have i1:bH (cV (.down k)) (.int 1)=some (.fz (nd k)):=hX
  exact dL t1 (iY t2 (gI (cr hs0 (by decide+kernel) rfl (aD (aj (d:=nd k) (bQ (rv:= .fz (nd k)) (ar rfl) bC rfl rfl i1)) aZ) rfl h1) (fin hs1)))
 |up k=>
  obtain⟨ω1,h1,hs1⟩:=CL vb (p:=(s,[])) hs0 sw he (show 0<700 by decide)
  have i1:bH (cV (.up k)) (.int 1)=some (.fz (nd k)):=hX
  exact dL t1 (dL t2 (gI (cr hs0 (by decide+kernel) rfl (aD (aj (d:=nd k) (bQ (rv:= .fz (nd k)) (ar rfl) bC rfl rfl i1)) aZ) rfl h1) (fin hs1)))
theorem G1 {e:Evn} (sw:SW b s) (he:EV b e):mw gS 3 [.fz (bD b),.fz (cU s),.fz (cV e)] ω= .ok (.tp [.rf ω.length,.fz (cU (cW b s e).1)]) (ω++[.lst (((cW b s e).2.map fq).map .fz)]):=by
 obtain⟨ω',h1,h2⟩:=Co vb sw he
 unfold mw
 rw[if_pos (show([.fz (bD b),.fz (cU s),.fz (cV e)]:List SV).length=3 from rfl),show aL qS [.fz (bD b),.fz (cU s),.fz (cV e)]=some [bD b,cU s,cV e] from rfl]
 dsimp only
 rw[show[bD b,cU s,cV e].map SV.fz=[.fz (bD b),.fz (cU s),.fz (cV e)] from rfl,h1]
 show(match vR ω' ω.length [.rf 2,.fz (cU (cW b s e).1)] with
  |some (l',cs,js)=>if js.Nodup then RS.ok (SV.tp l') (ω++cs.map GY) else .bad
  |none=> .bad)=_
 have hg:vR ω' ω.length [.rf 2,.fz (cU (cW b s e).1)]=some ([.rf ω.length,.fz (cU (cW b s e).1)],[(cW b s e).2.map fq],[2]):=by
  unfold vR
  rw[h2]
  rfl
 rw[hg]
 dsimp only
 rw[if_pos (by decide)]
 rfl
end
noncomputable def cJ:Stn:=⟨fun _=>none,none,none⟩
theorem kR (b:Bd):SW b cJ:=⟨⟨fun k a e=>(by cases e),fun o e=>(by cases e)⟩,fun ks g w e=>(by cases e)⟩
end STP
namespace STP
open PySem L2 L3 L10
theorem nu {α:Type} {f:α→D}:∀{l:List α},(∀a∈l,PyData.canLay0 (f a)=true)→PyData.canLayAll0 (l.map f)=true
 |[],_=>rfl
 |a::r,h=>by
  show(PyData.canLay0 (f a)&&PyData.canLayAll0 (r.map f))=true
  rw[h a List.mem_cons_self,nu fun x hx=>h x (List.mem_cons_of_mem _ hx)];rfl
theorem gF {α:Type} {f:α→D} {n:Nat}:∀{l:List α},(∀a∈l,PyData.depth (f a)≤n)→PyData.depthAll (l.map f)≤n
 |[],_=>Nat.zero_le _
 |a::r,h=>Nat.max_le.mpr ⟨h a List.mem_cons_self,gF fun x hx=>h x (List.mem_cons_of_mem _ hx)⟩
theorem yb {d:D} (h1:PyData.canLay0 d=true) (h2:PyData.depth d≤64):iL d=true:=by unfold iL;rw[h1,decide_eq_true h2];rfl
theorem ki {d:D} (h:iL d=true):PyData.canLay0 d=true:=by
 unfold iL at h
 exact(Bool.and_eq_true _ _▸h:_∧_).1
theorem k8 {d:D} (h:iL d=true):mG d d=some (.fz (.bool false)):=by
 unfold mG
 rw[h,ki h,Bool.and_self,if_pos rfl,PySem.SeqAt.eqv_refl d (ki h)]
 rfl
theorem C0 {d:D} (h:iL d=true):dE d d=some (.fz (.bool true)):=by
 unfold dE
 rw[h,ki h,Bool.and_self,if_pos rfl,PySem.SeqAt.eqv_refl d (ki h)]
def SnOk (sn:Sn):Prop:=∀q∈sn,q.1<26
theorem B9 {q:Nat×Bool} (h:q.1<26):PyData.canLay0 (fq q)=true:=by
 show(PyData.strOk (jN q.1)&&(PyData.strOk (if q.2=true then "down" else "up")&&true))=true
 rw[rZ h]
 cases q.2<;>decide+kernel
theorem rq (q:Nat×Bool):PyData.depth (fq q)≤1:=Nat.le_of_ble_eq_true rfl
theorem zH {sn:Sn} (h:SnOk sn):iL (.list (sn.map fq))=true:=by
 refine yb (nu fun q hq=>B9 (h q hq)) ?_
 show PyData.depthAll (sn.map fq)+1≤64
 have:=gF (f:=fq) (l:=sn) fun q _=>rq q
 omega
theorem vS {b:Bd} {s:Stn} (h:SW b s):iL (cU s)=true:=by
 have l1:PyData.canLayAll0 ((dJ s.ac).map pD)=true:=nu fun q hq=>by
  show(true&&(PyData.canLay0 (mD q.2)&&true))=true
  rw[tz (h.sa.ac _ _ (iu.mp hq).2).2.lb];rfl
 have d0:∀m:Mn,PyData.depth (mD m)≤1:=fun m=>by cases m<;>exact Nat.le_of_ble_eq_true rfl
 have d1:PyData.depthAll ((dJ s.ac).map pD)≤2:=gF fun q _=>by
  show max 0 (max (PyData.depth (mD q.2)) 0)+1≤2
  have:=d0 q.2
  omega
 have l2:PyData.canLay0 (ii s.wt)=true∧PyData.depth (ii s.wt)≤2:=by
  cases q:s.wt with
  |none=>exact⟨rfl,Nat.zero_le _⟩
  |some x=>
   obtain⟨ks,g,w⟩:=x
   have v:=(h.wt ks g w q).1
   constructor
   ·show(PyData.canLayAll0 (b3 ks)&&(true&&(PyData.canLay0 (me w)&&true)))=true
    rw[jP]
    cases w with
    |none=>show PyData.canLay0 (.tuple [.str "chord"])&&true=true;decide+kernel
    |some cn=>
     obtain⟨c,n⟩:=cn
     have lb:LB (.tap c n):=(v.tp c n rfl).1
     show(PyData.canLay0 (mD (.tap c n))&&true)=true
     rw[tz lb];rfl
   ·show max (PyData.depthAll (b3 ks)+1) (max 0 (max (PyData.depth (me w)) 0))+1≤2
    rw[nr]
    cases w with
    |none=>exact Nat.le_of_ble_eq_true rfl
    |some cn=>exact Nat.le_of_ble_eq_true rfl
 have l3:PyData.canLay0 (pJ s.oc)=true∧PyData.depth (pJ s.oc)=0:=by cases s.oc<;>exact⟨rfl,rfl⟩
 refine yb ?_ ?_
 ·show(PyData.canLayAll0 ((dJ s.ac).map pD)&&(PyData.canLay0 (ii s.wt)&&(PyData.canLay0 (pJ s.oc)&&true)))=true
  rw[l1,l2.1,l3.1];rfl
 ·show max (PyData.depthAll ((dJ s.ac).map pD)+1) (max (PyData.depth (ii s.wt)) (max (PyData.depth (pJ s.oc)) 0))+1≤64
  rw[l3.2]
  have:=l2.2
  omega
section
variable {b:Bd} (vb:VB b) {s:Stn} {p:Stn×Sn} {k:Nat} {a:Mn}
theorem SnOk.app {x y:Sn} (hx:SnOk x) (hy:SnOk y):SnOk (x++y):=fun q hq=>(List.mem_append.mp hq).elim (hx q) (hy q)
theorem jL (h:SnOk p.2) (ha:LB a):SnOk (fy p k a).2:=by
 refine h.app fun q hq=> ?_
 cases a with
 |letter c=>
  have hq:q∈(if gl p.1.ac (.letter c)=true then[] else[(c,true)]:Sn):=hq
  split at hq
  ·cases hq
  ·rw[List.mem_singleton.mp hq];exact ha
 |_=>cases hq
theorem zn (qs:List (Nat×Mn)):∀{p:Stn×Sn},SnOk p.2→(∀q∈qs,LB q.2)→SnOk (iG p qs).2:=by
 induction qs with
 |nil=>exact fun h _=>h
 |cons q r ih=>exact fun h hq=>ih (jL h (hq q List.mem_cons_self)) fun x hx=>hq x (List.mem_cons_of_mem _ hx)
theorem Dz (h:SnOk p.2) (ha:SA b p.1):SnOk (go p k).2:=by
 unfold go
 split
 ·rename_i a q
  have lb:=(ha.ac k a q).2.lb
  refine h.app fun x hx=> ?_
  cases a with
  |letter c=>
   have hx:x∈(if gl (eX p.1.ac k none) (.letter c)=true then[] else[(c,false)]:Sn):=hx
   split at hx
   ·cases hx
   ·rw[List.mem_singleton.mp hx];exact lb
  |_=>cases hx
 ·exact h
include vb
theorem kW (h:SnOk p.2) (hw:WD b p.1):SnOk (dk b p).2:=by
 unfold dk
 split
 ·exact h
 ·rename_i ks g w q
  exact zn _ (p:=({p.1 with wt:=none},p.2)) h fun x hx=>(sF vb (hw ks g w q) x hx).2.lb
theorem Fh (h:SnOk p.2) (sa:SA b p.1) (hk:(k:Int)<b.n):SnOk (BN b p k).2:=by
 obtain⟨L0,L1⟩:=wg vb sa
 obtain⟨vm,nb⟩:=kN vb (k:=k) L0 L1 hk
 have eb:BN b p k=ti b (j6 p.1.ac p.1.oc) (fH p.1 (look b (j6 p.1.ac p.1.oc) k),p.2) k (look b (j6 p.1.ac p.1.oc) k):=rfl
 rw[eb]
 generalize look b (j6 p.1.ac p.1.oc) k=m at vm nb
 generalize j6 p.1.ac p.1.oc=L at vm
 have lb:=vm.lb
 cases m with
 |tap c n=>exact h
 |letter c=>
  show SnOk (if(decide (L=0)&& !(d9 b [k]).isEmpty)=true then({fH p.1 (.letter c) with wt:=some ([k],0,none)},p.2) else fy (fH p.1 (.letter c),p.2) k (.letter c)).2
  split
  ·exact h
  ·exact jL (p:=(fH p.1 (.letter c),p.2)) h lb
 |layer n=>exact jL (p:=(fH p.1 (.layer n),p.2)) h lb
 |once n=>exact jL (p:=(fH p.1 (.once n),p.2)) (k:=k) (a:= .none) h trivial
 |none=>exact jL (p:=(fH p.1 .none,p.2)) h lb
 |below=>exact absurd rfl nb
theorem xS {e:Evn} (sw:SW b s) (he:EV b e):SnOk (cW b s e).2:=by
 have h0:SnOk []:=fun q hq=>by cases hq
 cases e with
 |turn=>
  show SnOk (jW b (s,[])).2
  unfold jW
  split
  ·exact h0
  ·rename_i ks g w q
   have v:=(sw.wt ks g w q).1
   split
   ·exact kW vb (p:=({s with wt:=some (ks,g+1,w)},[])) h0 fun _ _ _ e=>by cases e;exact⟨v.ne,v.nd,v.kn,v.kf,by have:=v.g0;omega,v.tp,v.ch⟩
   ·exact h0
 |up k=>
  show SnOk (lO b (s,[]) k).2
  unfold lO
  split
  ·rename_i q
   have z:=l9 vb (p:=(s,[])) sw q
   refine Dz ?_ z.1.sa
   unfold dM
   split
   ·exact kW vb (p:=(s,[])) h0 (SW.wd vb sw)
   ·rename_i c n e
    have hc:c<26:=((sw.wt _ _ _ e).1.tp c n rfl).1
    exact jL (p:=({s with wt:=none},[])) h0 hc
   ·exact h0
  ·exact Dz (p:=(s,[])) h0 sw.sa
 |down k=>
  show SnOk (gD b (s,[]) k).2
  unfold gD
  split
  ·exact h0
  ·rename_i q
   rw[Bool.or_eq_true,not_or] at q
   have ha:s.ac k=none:=by
    cases z:s.ac k with
    |none=>rfl
    |some x=>exact absurd (show(s.ac k).isSome=true by rw[z];rfl) q.1
   have hn:tL s.wt k=false:=by
    cases z:tL s.wt k with
    |false=>rfl
    |true=>exact absurd z q.2
   split
   ·rename_i qm
    obtain⟨ks,g,e1,e2,e3,e4⟩:=v8 vb (p:=(s,[])) sw he ha hn qm
    have e1:s.wt=some (ks,g,none):=e1
    unfold sS
    dsimp only
    rw[e1]
    dsimp only
    split
    ·exact kW vb (p:=({s with wt:=some (ks++[k],g,none)},[])) h0 fun _ _ _ e=>by cases e;exact e3
    ·exact h0
   ·have d:=ig vb (p:=(s,[])) sw.sa (SW.wd vb sw)
    exact Fh vb (kW vb (p:=(s,[])) h0 (SW.wd vb sw)) d.1.sa he
end
noncomputable def cw (b:Bd):Stn→List Evn→Stn×List Sn
 |s,[]=>(s,[])
 |s,e::r=>((cw b (cW b s e).1 r).1,(cW b s e).2::(cw b (cW b s e).1 r).2)
theorem oP (b:Bd):∀(xs ys:List Evn) (s:Stn),cw b s (xs++ys)=((cw b (cw b s xs).1 ys).1,(cw b s xs).2++(cw b (cw b s xs).1 ys).2)
 |[],_,_=>rfl
 |e::r,ys,s=>by
  show((cw b (cW b s e).1 (r++ys)).1,_::(cw b (cW b s e).1 (r++ys)).2)=_
  rw[oP b r ys]
  rfl
theorem jc (b:Bd):∀(xs:List Evn) (s:Stn),(cw b s xs).2.length=xs.length
 |[],_=>rfl
 |e::r,s=>by
  show(_::(cw b (cW b s e).1 r).2).length=_
  rw[List.length_cons,jc b r,List.length_cons]
theorem nA (b:Bd):∀(xs:List Evn) (s:Stn) (i:Nat) (e:Evn),xs[i]? =some e→(cw b s (xs.take (i+1))).1=(cW b (cw b s (xs.take i)).1 e).1∧(cw b s xs).2[i]? =some (cW b (cw b s (xs.take i)).1 e).2
 |[],_,_,_,h=>by cases h
 |x::r,s,0,e,h=>by cases h;exact⟨rfl,rfl⟩
 |x::r,s,i+1,e,h=>by
  have:=nA b r (cW b s x).1 i e h
  exact this
theorem lf {b:Bd} (vb:VB b):∀(xs:List Evn) {s:Stn},SW b s→(∀e∈xs,EV b e)→SW b (cw b s xs).1
 |[],_,h,_=>h
 |e::r,s,h,he=>lf vb r (rO vb h (he e List.mem_cons_self)) fun x hx=>he x (List.mem_cons_of_mem _ hx)
end STP
namespace STP
open PySem L2 L3 L10
theorem yZ {b:Bd} {s:Stn} {sn:Sn} {k:Nat} {m:Mn} (ha:s.ac k=none) (hw:s.wt=none) (hl:look b (j6 s.ac s.oc) k=m):gD b (s,sn) k=ti b (j6 s.ac s.oc) (fH s m,sn) k m:=by
 unfold gD
 rw[if_neg (by
  show¬((s.ac k).isSome||tL s.wt k)=true
  rw[ha,hw];simp[tL]),if_neg (by
  show¬yE b s k=true
  unfold yE;rw[hw];simp)]
 have:dk b (s,sn)=(s,sn):=by unfold dk;dsimp only;rw[hw]
 rw[this,←hl]
 rfl
theorem AZ {b:Bd} {s:Stn} {sn:Sn} {k:Nat} {a:Mn} (ha:s.ac k=some a) (hw:tL s.wt k=false):lO b (s,sn) k=({s with ac:=eX s.ac k none},sn++vi (eX s.ac k none) a):=by
 unfold lO
 rw[if_neg (by show¬tL s.wt k=true;rw[hw];simp)]
 unfold go
 dsimp only
 rw[ha]
noncomputable def fT (dl:List Sn):List D:=dl.map fun sn=> .list (sn.map fq)
theorem zS {b:Bd} (h:b.cs=[]) (ks:List Nat):d9 b ks=[]:=by unfold d9;rw[h];rfl
theorem wf (dl:List Sn):(fT dl).length=dl.length:=by unfold fT;rw[List.length_map]
end STP
namespace STP
open PySem L2 L3 L10
end STP
namespace K31
open PySem L2 L3 STP
noncomputable def mr:FS:=(fX (EX (aW (aY HU (ah 1) (iU h7 (ap (ah 0) aJ)))) (aY bH (ah 0) (ah 1)) (pC (.int 0))))
noncomputable def dI:FN:=iJ 2 mr
noncomputable def mx:FS:=(dZ (jU (aY lM (aY gz (aY eW (aY lM (ah 0) (pC (.int 1000033))) (ah 1)) (aY eW (ah 1) (pC (.int 521)))) (pC (.int 1000033))) (gN 3))
 (dZ (jU (aY lM (aY eW (aY eW (aY gz (ah 3) (ah 3)) (aY u6 (ah 0) (pC (.int 1000033)))) (aY gz (pC (.int 7)) (ah 1))) (pC (.int 999983))) (gN 3))
 (fX (aY lM (aY u6 (ah 3) (pC (.int 3))) (ah 2)))))
noncomputable def bB:FN:=iJ 4 mx
noncomputable def eY:FS:=(dZ (pO (y4 (aW (aY Gc (ah 1) (pC (.int 0)))) (aW (aY dE (gL bB 3 (ap (ah 0) (ap (pC (.int 3)) (ap (pC (.int 4)) aJ)))) (pC (.int 1))))) (fX (c8 (ap (pC (.str "below")) aJ))) hZ)
 (dZ (pO (y4 (aW (aY Gc (ah 2) (pC (.int 1)))) (aW (aY dE (gL bB 3 (ap (ah 0) (ap (pC (.int 3)) (ap (pC (.int 4)) aJ)))) (pC (.int 2))))) (fX (c8 (ap (pC (.str "layer")) (ap (aY eW (pC (.int 1)) (gL bB 3 (ap (ah 0) (ap (pC (.int 7)) (ap (aY sW (ah 2) (pC (.int 1))) aJ))))) aJ)))) hZ)
 (dZ (pO (aW (aY dE (gL bB 3 (ap (ah 0) (ap (pC (.int 3)) (ap (pC (.int 12)) aJ)))) (pC (.int 3)))) (fX (c8 (ap (pC (.str "none")) aJ))) hZ)
 (fX (c8 (ap (pC (.str "letter")) (ap (aY nw (pC (.str "abc")) (gL bB 3 (ap (ah 0) (ap (pC (.int 5)) (ap (pC (.int 3)) aJ))))) aJ)))))))
noncomputable def cX:FN:=iJ 3 eY
noncomputable def iq:FS:=(dZ (jU (gL dI 2 (ap (ah 0) (ap (pC (.int 0)) aJ))) (gN 1))
 (dZ (jU (aY eW (pC (.int 1)) (gL bB 3 (ap (ah 1) (ap (pC (.int 1)) (ap (pC (.int 4)) aJ))))) (gN 2))
 (dZ (jU (aY eW (pC (.int 1)) (gL bB 3 (ap (ah 1) (ap (pC (.int 2)) (ap (pC (.int 3)) aJ))))) (gN 3))
 (dZ (jU (dG aJ) (gN 4))
 (dZ (sd (yQ uy (ap (ah 3) aJ)) (gN 5) (dZ (jU (iB 1 [0,2,5] (yQ uy (ap (ah 2) aJ)) (gN 0) iZ (gL dI 2 (ap (ah 1) (ap (aY eW (aY eW (pC (.int 1)) (aY gz (ah 2) (ah 3))) (ah 0)) aJ)))) (gN 6))
 (pF (yM 4 (iU mI (ap (iB 1 [5,3] (kb (ah 6)) (gN 0) iZ (gL cX 3 (ap (ah 0) (ap (ah 1) (ap (ah 2) aJ))))) aJ))))))
 (fX (c8 (ap (ah 2) (ap (iU mI (ap (ah 4) aJ)) (ap (c8 aJ) (ap (aY eW (pC (.int 1)) (gL bB 3 (ap (ah 1) (ap (pC (.int 23)) (ap (pC (.int 4)) aJ))))) aJ)))))))))))
noncomputable def fE:FN:=iJ 7 iq
noncomputable def fL:FS:=(dZ (jU (dG aJ) (gN 3))
 (dZ (sd (kb (GN Hg (ah 0) (qL (ah 1)) (qL (pC (.int 63))))) (gN 4) (dZ (jU (gL bB 3 (ap (ah 4) (ap (pC (.int 29)) (ap (aY eW (aY gz (pC (.int 2)) (ah 2)) (pC (.int 1))) aJ)))) (gN 5))
 (pF (yM 3 (aY bH (dG (ap (c8 (ap (pC (.str "down")) (ap (aY lM (ah 5) (ah 2)) aJ))) (ap (c8 (ap (pC (.str "up")) (ap (aY lM (ah 5) (ah 2)) aJ))) (ap (c8 (ap (pC (.str "turn")) (ap (pC (.int 0)) aJ))) aJ)))) (aY u6 (ah 5) (ah 2)))))))
 (fX (ah 3))))
noncomputable def dY:FN:=iJ 6 fL
end K31
namespace K31
open PySem L2 L3 L10 STP
noncomputable def wa:fu:=(bc (eA (ai (pC (.tuple [(.tuple []),.none,.none]))) (fM 2))
 (bc (eA (ai (dG aJ)) (fM 3))
 (bc (uB (mv (kb (ah 1))) (fM 4) (bc (eA (tJ (mf STP.gS 3 (aB (ai (ah 0)) (aB (ai (ah 2)) (aB (ai (ah 4)) a8))))) (fM 5))
 (bc (cK (pU (aF 3) (ai (aY bH (ah 5) (pC (.int 0))))))
 (eA (ai (aY bH (ah 5) (pC (.int 1)))) (fM 2)))))
 (gi (gO (aB (aF 3) (aB (ai (ah 2)) a8)))))))
noncomputable def jf:gX:=fw 6 wa
noncomputable def lg:fu:=(gi (Dm yh (aB (je eW (ai (dG (ap (pC (.int 0)) aJ))) (nN 1 [] (aF 0) (fM 0) (bM (aW (aY dE (aY bH (ah 0) (pC (.int 0))) (pC (.str "layer"))))) (ai (aY bH (ah 0) (pC (.int 1)))))) a8)))
noncomputable def de:gX:=fw 1 lg
noncomputable def ku:fu:=(bc (eA (ai (ah 2)) (F5 2 (pi (fM 3) (pi (fM 4) yq))))
 (bc (cY (g6 (bM (aW (aY dE (ah 3) (pC (.str "down"))))) (bV (oi true (ai (ah 4)) (aF 1)))) (bc (eA (nw (nw (ai (aY bH (ah 0) (pC (.int 1)))) (qz de 1 (aB (aF 1) a8))) (ai (ah 4))) (fM 5))
 (bc (cY (bM (aW (aY dE (aY bH (ah 5) (pC (.int 0))) (pC (.str "below"))))) (eA (ai (aY bH (aY bH (aY bH (ah 0) (pC (.int 1))) (pC (.int 0))) (ah 4))) (fM 5)) dh)
 (bc (eA (mC (aF 1)) (fM 6))
 (bc (qR (aF 1) (ai (ah 4)) (ai (ah 5)))
 (cY (g6 (bM (aW (aY dE (aY bH (ah 5) (pC (.int 0))) (pC (.str "letter"))))) (bV (je mU (ai (ah 5)) (aF 6)))) (gi (ai (dG (ap (c8 (ap (aY bH (ah 5) (pC (.int 1))) (ap (pC (.str "down")) aJ))) aJ)))) dh))))) (cY (g6 (bM (aW (aY dE (ah 3) (pC (.str "up"))))) (bV (oi false (ai (ah 4)) (aF 1)))) (bc (eA (ra (aF 1) (ai (ah 4))) (fM 5))
 (cY (g6 (bM (aW (aY dE (aY bH (ah 5) (pC (.int 0))) (pC (.str "letter"))))) (bV (je mU (ai (ah 5)) (mC (aF 1))))) (gi (ai (dG (ap (c8 (ap (aY bH (ah 5) (pC (.int 1))) (ap (pC (.str "up")) aJ))) aJ)))) dh)) dh))
 (gi (ai (dG aJ)))))
noncomputable def fF:gX:=fw 7 ku
noncomputable def AE:fu:=(bc (eA (ai (gL fE 1 (ap (ah 0) aJ))) (fM 1))
 (bc (eA (tJ (ai (gL dY 3 (ap (ah 0) (ap (pC (.int 16)) (ap (aY bH (ah 1) (pC (.int 0))) aJ)))))) (fM 2))
 (bc (eA (ai (c8 (ap (c8 aJ) (ap (pC .none) (ap (pC .none) aJ))))) (fM 3))
 (bc (eA D1 (fM 4))
 (bc (eA (ai (dG aJ)) (fM 5))
 (bc (uB (mv (kb (ah 2))) (fM 6) (bc (eA (qz fF 3 (aB (ai (ah 1)) (aB (aF 4) (aB (ai (ah 6)) a8)))) (fM 7))
 (bc (eA (tJ (mf STP.gS 3 (aB (ai (ah 1)) (aB (ai (ah 3)) (aB (ai (ah 6)) a8))))) (fM 8))
 (bc (cY (wC (bM (zd (aW (yV "tuple" (ah 8))))) (wC (bM (aW (aY mG (iU h7 (ap (ah 8) aJ)) (pC (.int 2))))) (wC (bM (zd (aW (yV "list" (aY bH (ah 8) (pC (.int 0))))))) (bV (je mG (ai (aY bH (ah 8) (pC (.int 0)))) (aF 7)))))) (gi (ai (pC (.bool false)))) dh)
 (bc (eA (ai (aY bH (ah 8) (pC (.int 1)))) (fM 3))
 (bc (cY (bV (je mG (ai (ah 3)) (gO (aB (Dm mI (aB (j8 1 [4] (g8 (jZ (aF 4))) (fM 0) jj (gO (aB (ai (ah 0)) (aB (jX (aF 1) (ai (ah 0))) a8)))) a8)) (aB (ai (pC .none)) (aB (ai (pC .none)) a8)))))) (gi (ai (pC (.bool false)))) dh)
 (bc (cY (bV (je mG (ai (gL cI 1 (ap (ah 3) aJ))) (qz de 1 (aB (aF 4) a8)))) (gi (ai (pC (.bool false)))) dh)
 (cK (pU (aF 5) (aF 7))))))))))
 (bc (eA (mf jf 2 (aB (ai (ah 1)) (aB (ai (ah 2)) a8))) (F5 2 (pi (fM 9) (pi (fM 10) yq))))
 (bc (cY (wC (bV (je mG (aF 9) (aF 5))) (bM (aW (aY mG (ah 10) (ah 3))))) (gi (ai (pC (.bool false)))) dh)
 (bc (cK (pU (aF 9) (ai (dG (ap (pC .none) aJ)))))
 (gi (je dE (mf jf 2 (aB (ai (ah 1)) (aB (ai (ah 2)) a8))) (gO (aB (aF 5) (aB (ai (ah 3)) a8))))))))))))))
noncomputable def F_law:gX:=fw 11 AE
end K31
namespace K31
open PySem L2 L3 L10 STP
theorem wR (ns:List Int) (k:Int) (hk:0≤k):∃c:Int,dI [.list (ns.map .int),.int k]= .ok (.fz (.int c)):=by
 obtain⟨n,rfl⟩:∃n:Nat,k=(n:Int):=⟨k.toNat,by omega⟩
 have hl:h7 [.list (ns.map .int)]=some (.fz (nd ns.length)):=(pG _).trans (by rw[List.length_map])
 by_cases h:n<ns.length
 ·refine⟨ns[n],km (ρ:=[some (.fz (.list (ns.map .int))),some (.fz (nd n))]) rfl (gp (pv:= .fz (.int ns[n])) (rv:= .fz (.int ns[n])) (ET (eC (bQ (rv:= .fz (.bool true)) (ar rfl) (iH (rv:= .fz (nd ns.length)) (bp (ar rfl) cP) rfl hl) rfl rfl ?_) rfl) (bQ (rv:= .fz (.int ns[n])) (ar rfl) (ar rfl) rfl rfl (Io ?_))) rfl rfl)⟩
  ·rw[tj,decide_eq_true (by omega)]
  ·rw[List.getElem?_map,List.getElem?_eq_getElem h];rfl
 ·refine⟨0,km (ρ:=[some (.fz (.list (ns.map .int))),some (.fz (nd n))]) rfl (gp (pv:= .fz (.int 0)) (rv:= .fz (.int 0)) (Fc (eC (bQ (rv:= .fz (.bool false)) (ar rfl) (iH (rv:= .fz (nd ns.length)) (bp (ar rfl) cP) rfl hl) rfl rfl ?_) rfl) bC) rfl rfl)⟩
  rw[tj,decide_eq_false (by omega)]
theorem Hz {i j:Int} (h: -(2^64)<i∧i<2^64):gz (.int i) (.int j)=some (.fz (.int (i*j))):=B1 h
theorem HZ {i j:Int} (h: -(2^64)<j∧j<2^64):gz (.int i) (.int j)=some (.fz (.int (i*j))):=Dt h
noncomputable def zf (x s m:Int):Int:=((x % 1000033+s)*(s+521) % 1000033*((x % 1000033+s)*(s+521) % 1000033)+x/1000033+7*s) % 999983/3 % m
theorem lJ {x s m:Int} (hm:0<m):0≤zf x s m∧zf x s m<m:=⟨Int.emod_nonneg _ (by omega),Int.emod_lt_of_pos _ hm⟩
theorem gA (x:Int) {s m:Int} (h0:0≤s) (h1:s<1000) (hm:0<m):bB [.int x,.int s,.int m]= .ok (.fz (.int (zf x s m))):=by
 unfold zf
 have m1:lM (.int x) (.int 1000033)=some (.fz (.int (x % 1000033))):=oj (by decide)
 have m2:gz (.int (x % 1000033+s)) (.int (s+521))=some (.fz (.int ((x % 1000033+s)*(s+521)))):=HZ ⟨by omega,by omega⟩
 generalize (x % 1000033+s)*(s+521)=y at m2
 have m3:lM (.int y) (.int 1000033)=some (.fz (.int (y % 1000033))):=oj (by decide)
 have b1:0≤y % 1000033∧y % 1000033<1000033:=⟨Int.emod_nonneg _ (by decide),Int.emod_lt_of_pos _ (by decide)⟩
 generalize y % 1000033=z at m3 b1
 have m4:gz (.int z) (.int z)=some (.fz (.int (z*z))):=HZ ⟨by omega,by omega⟩
 have m5:u6 (.int x) (.int 1000033)=some (.fz (.int (x/1000033))):=vY ⟨by decide,by decide⟩
 have m6:gz (.int 7) (.int s)=some (.fz (.int (7*s))):=Hz ⟨by decide,by decide⟩
 generalize z*z=u at m4
 have m7:lM (.int (u+x/1000033+7*s)) (.int 999983)=some (.fz (.int ((u+x/1000033+7*s) % 999983))):=oj (by decide)
 generalize (u+x/1000033+7*s) % 999983=v at m7
 have m8:u6 (.int v) (.int 3)=some (.fz (.int (v/3))):=vY ⟨by decide,by decide⟩
 have m9:lM (.int (v/3)) (.int m)=some (.fz (.int (v/3 % m))):=oj hm
 exact km (ρ:=[some (.fz (.int x)),some (.fz (.int s)),some (.fz (.int m)),none]) rfl (v3 (Av (by walk_at "ev") rfl (v3 (Av (by walk_at "ev") rfl (gp (by walk_at "ev") rfl rfl)))))
theorem Fi {z:Str} {cs:List Nat} (hz:z.cps.toList=cs.map (97+·)) (hl:z.length≤1000000) {r:Int} {c:Nat} (h0:0≤r) (h:cs[r.toNat]? =some c):L3.nw (.str z) (.int r)=some (.fz (.str (jN c))):=by
 show(if z.length≤1000000 then(l8 z.cps.toList r).map (fun c=>RV.fz (.str ⟨#[c]⟩)) else none)=_
 rw[if_pos hl,hz,Cc (v:=97+c) h0 (by rw[List.getElem?_map,h];rfl)]
 rfl
theorem E5 {z:Str} (cs:List Nat) (hz:z.cps.toList=cs.map (97+·)) (hl:z.length≤1000000) (hc:∀c∈cs,c<26) {r:Int} (h0:0≤r) (h1:r<cs.length):∃c,c<26∧L3.nw (.str z) (.int r)=some (.fz (.str (jN c))):=by
 have hr:r.toNat<cs.length:=by omega
 exact⟨cs[r.toNat],hc _ (List.getElem_mem hr),Fi hz hl h0 (List.getElem?_eq_getElem hr)⟩
theorem zQ (ns:List Int) (lo hi:Option Int):∃ms:List Int,ms.length≤ns.length∧Hg (.list (ns.map .int)) lo hi=some (.ow (ms.map .int)):=by
 refine⟨(ns.drop (HT.sIx ns.length 0 lo)).take (HT.sIx ns.length ns.length hi - HT.sIx ns.length 0 lo),?_,?_⟩
 ·rw[List.length_take,List.length_drop];omega
 ·show some (RV.ow (yI (ns.map .int) lo hi))=_
  unfold yI
  rw[List.length_map,List.map_take,List.map_drop]
noncomputable def D8:Mn→Bool
 | .letter _=>true
 | .layer _=>true
 | .none=>true
 | .below=>true
 |_=>false
noncomputable def Ip:Mn→Bool
 | .letter _=>true
 | .layer _=>true
 | .none=>true
 |_=>false
structure B31 (b:Bd):Prop where
 vb:VB b
 nc:b.cs=[]
 n4:b.n≤4
 sm:∀l∈b.ls,∀m∈l,D8 m=true
theorem B0 (c:Int) (L:Nat) (nl:Int) (h1:1≤nl) (h3:nl≤3):∃m:Mn,VM L nl m∧D8 m=true∧cX [.int c,nd L,.int nl]= .ok (.fz (mD m)):=by
 have d34:=gA c (s:=3) (m:=4) (by decide) (by decide) (by decide)
 generalize zf c 3 4=r34 at d34
 have d312:=gA c (s:=3) (m:=12) (by decide) (by decide) (by decide)
 generalize zf c 3 12=r312 at d312
 have d5:=gA c (s:=5) (m:=3) (by decide) (by decide) (by decide)
 have b5:=lJ (x:=c) (s:=5) (m:=3) (by decide)
 generalize zf c 5 3=r5 at d5 b5
 obtain⟨l,hl,el⟩:=E5 (z:= "abc") [0,1,2] (by decide+kernel) (by decide+kernel) (by decide) b5.1 (show r5<3 from b5.2)
 have gt0:Gc (nd L) (.int 0)=some (.fz (.bool (decide ((0:Int)<L)))):=rfl
 have key:∃rv,iJ 3 eY [.int c,nd L,.int nl]= .ok rv∧∃m:Mn,VM L nl m∧D8 m=true∧rv= .fz (mD m):=by
  refine sN (T:=fun rv=>∃m:Mn,VM L nl m∧D8 m=true∧rv= .fz (mD m)) (ρ:=[some (.fz (.int c)),some (.fz (nd L)),some (.fz (.int nl))]) rfl ?_
  unfold eY
  refine ya (b:=(decide ((0:Int)<L)&&decide (r34=1))) (ρ1:=[some (.fz (.int c)),some (.fz (nd L)),some (.fz (.int nl))]) (by walk_at "ev") (fun q=> ?_) (fun _=>jr ?_)
  ·rw[Bool.and_eq_true] at q
   have q1:=of_decide_eq_true q.1
   exact lH (pv:= .fz (mD .below)) (ρ1:=[some (.fz (.int c)),some (.fz (nd L)),some (.fz (.int nl))]) (show _=Res.ok (PV.fz (.tuple [.str "below"]),_) by walk_at "ev") rfl ⟨.below,by show(L:Int)≠0;omega,rfl,rfl⟩
  refine ya (b:=(decide (1<nl)&&decide (r34=2))) (ρ1:=[some (.fz (.int c)),some (.fz (nd L)),some (.fz (.int nl))]) (by walk_at "ev") (fun q=> ?_) (fun _=>jr ?_)
  ·rw[Bool.and_eq_true] at q
   have q1:=of_decide_eq_true q.1
   have d7:=gA c (s:=7) (m:=nl - 1) (by decide) (by decide) (by omega)
   have b7:=lJ (x:=c) (s:=7) (m:=nl - 1) (by omega)
   generalize zf c 7 (nl - 1)=r7 at d7 b7
   exact lH (pv:= .fz (mD (.layer (1+r7)))) (ρ1:=[some (.fz (.int c)),some (.fz (nd L)),some (.fz (.int nl))]) (show _=Res.ok (PV.fz (.tuple [.str "layer",.int (1+r7)]),_) by walk_at "ev") rfl ⟨.layer (1+r7),⟨by omega,by omega⟩,rfl,rfl⟩
  refine ya (b:=decide (r312=3)) (ρ1:=[some (.fz (.int c)),some (.fz (nd L)),some (.fz (.int nl))]) (by walk_at "ev") (fun q=> ?_) (fun _=>jr ?_)
  ·exact lH (pv:= .fz (mD .none)) (ρ1:=[some (.fz (.int c)),some (.fz (nd L)),some (.fz (.int nl))]) (show _=Res.ok (PV.fz (.tuple [.str "none"]),_) by walk_at "ev") rfl ⟨.none,trivial,rfl,rfl⟩
  ·exact gp (pv:= .fz (mD (.letter l))) (ρ1:=[some (.fz (.int c)),some (.fz (nd L)),some (.fz (.int nl))]) (show _=Res.ok (PV.fz (.tuple [.str "letter",.str (jN l)]),_) by walk_at "ev") rfl ⟨.letter l,hl,rfl,rfl⟩
 obtain⟨rv,h,m,v1,v2,rfl⟩:=key
 exact⟨m,v1,v2,h⟩
theorem EU (ns:List Int):∃b:Bd,B31 b∧fE [.list (ns.map .int)]= .ok (.fz (bD b)):=by
 obtain⟨c0,e0⟩:=wR ns 0 (by decide)
 have d1:=gA c0 (s:=1) (m:=4) (by decide) (by decide) (by decide)
 have b1:=lJ (x:=c0) (s:=1) (m:=4) (by decide)
 generalize zf c0 1 4=r1 at d1 b1
 have d2:=gA c0 (s:=2) (m:=3) (by decide) (by decide) (by decide)
 have b2:=lJ (x:=c0) (s:=2) (m:=3) (by decide)
 generalize zf c0 2 3=r2 at d2 b2
 have d23:=gA c0 (s:=23) (m:=4) (by decide) (by decide) (by decide)
 have b23:=lJ (x:=c0) (s:=23) (m:=4) (by decide)
 generalize zf c0 23 4=r23 at d23 b23
 obtain⟨n,hn⟩:∃n:Nat,1+r1=(n:Int):=⟨(1+r1).toNat,by omega⟩
 obtain⟨nl,hnl⟩:∃n:Nat,1+r2=(n:Int):=⟨(1+r2).toNat,by omega⟩
 have rgn:uy [.int (1+r1)]=some (b3 (List.range n)):=by rw[hn];exact x8 (by omega)
 have rgl:uy [.int (1+r2)]=some (b3 (List.range nl)):=by rw[hnl];exact x8 (by omega)
 have key:∃rv,iJ 7 iq [.list (ns.map .int)]= .ok rv∧∃b:Bd,B31 b∧rv= .fz (bD b):=by
  refine sN (T:=fun rv=>∃b:Bd,B31 b∧rv= .fz (bD b)) (ρ:=[some (.fz (.list (ns.map .int))),none,none,none,none,none,none]) rfl ?_
  unfold iq
  refine iV (ρ3:=[some (.fz (.list (ns.map .int))),some (.fz (.int c0)),none,none,none,none,none]) (by walk_at "ev") rfl rfl ?_
  refine iV (ρ3:=[some (.fz (.list (ns.map .int))),some (.fz (.int c0)),some (.fz (.int (1+r1))),none,none,none,none]) (by walk_at "ev") rfl rfl ?_
  refine iV (ρ3:=[some (.fz (.list (ns.map .int))),some (.fz (.int c0)),some (.fz (.int (1+r1))),some (.fz (.int (1+r2))),none,none,none]) (by walk_at "ev") rfl rfl ?_
  refine iV (ρ3:=[some (.fz (.list (ns.map .int))),some (.fz (.int c0)),some (.fz (.int (1+r1))),some (.fz (.int (1+r2))),some (.ow []),none,none]) (by walk_at "ev") rfl rfl ?_
  refine Ah (fun i ρ=>∃(rs:List (List Mn)) (o5 o6:Option PV),rs.length=i∧(∀(j:Nat) (r:List Mn),rs[j]? =some r→(r.length:Int)=1+r1∧∀m∈r,VM j (1+r2) m∧D8 m=true)∧ρ=[some (.fz (.list (ns.map .int))),some (.fz (.int c0)),some (.fz (.int (1+r1))),some (.fz (.int (1+r2))),some (.ow (rs.map lu)),o5,o6]) (ds:=b3 (List.range nl)) (ρ1:=[some (.fz (.list (ns.map .int))),some (.fz (.int c0)),some (.fz (.int (1+r1))),some (.fz (.int (1+r2))),some (.ow []),none,none]) (by walk_at "ev") ⟨[],none,none,rfl,(fun j r h=>by cases h),rfl⟩ ?_ ?_
  ·rintro i d ρ hi ⟨rs,o5,o6,hl,hr,rfl⟩
   obtain⟨L,hL,rfl⟩:=xt hi
   obtain⟨hin,rfl⟩:i<nl∧L=i:=by
    obtain⟨h1,h2⟩:=List.getElem?_eq_some_iff.mp hL
    rw[List.length_range] at h1
    rw[List.getElem_range] at h2
    exact⟨h1,h2.symm⟩
   refine⟨_,rfl,?_⟩
   have mu:gz (.int (1+r1)) (nd L)=some (.fz (.int ((1+r1)*L))):=Hz ⟨by omega,by omega⟩
   obtain⟨xs,c1,c2,c3⟩:=ul (gt:=gN 0) (ft:=iZ) (fe:=gL dI 2 (ap (ah 1) (ap (aY eW (aY eW (pC (.int 1)) (aY gz (ah 2) (ah 3))) (ah 0)) aJ))) (ds:=b3 (List.range n)) (ρ:=[none,some (.fz (.list (ns.map .int))),some (.fz (.int (1+r1))),some (.fz (nd L))]) (fun ρ=>∃o,ρ=[o,some (.fz (.list (ns.map .int))),some (.fz (.int (1+r1))),some (.fz (nd L))]) (fun _ x=>∃a:Int,x= .int a∧True) ⟨none,rfl⟩ (by rw[gC,List.length_range];omega) (by
    rintro j d hj ρ ⟨o,rfl⟩
    obtain⟨k,hk,rfl⟩:=xt hj
    obtain⟨c,ec⟩:=wR ns (1+(1+r1)*L+k) (by
     have:=Int.mul_nonneg (show 0≤1+r1 by omega) (show(0:Int)≤L by omega)
     omega)
    refine⟨.int c,_,BT (ρ1:=[some (.fz (nd k)),some (.fz (.list (ns.map .int))),some (.fz (.int (1+r1))),some (.fz (nd L))]) rfl rfl (kq (rv:= .fz (.int c)) (ds:=[.list (ns.map .int),.int (1+(1+r1)*L+k)]) (bp (ar rfl) (bp (bQ (rv:= .fz (.int (1+(1+r1)*L+k))) (bQ (rv:= .fz (.int (1+(1+r1)*L))) bC (bQ (rv:= .fz (.int ((1+r1)*L))) (ar rfl) (ar rfl) rfl rfl mu) rfl rfl (ky _ _)) (ar rfl) rfl rfl (ky _ _)) cP)) rfl rfl ec) rfl rfl,⟨_,rfl⟩,c,rfl,trivial⟩)
   obtain⟨cs,rfl,_⟩:=sk (f:=PyData.int) (Q:=fun _ (_:Int)=>True) xs 0 c3
   rw[gC,List.length_range,List.length_map] at c2
   refine iV (pv:= .ow (cs.map .int)) (ρ3:=[some (.fz (.list (ns.map .int))),some (.fz (.int c0)),some (.fz (.int (1+r1))),some (.fz (.int (1+r2))),some (.ow (rs.map lu)),some (.fz (nd L)),some (.ow (cs.map .int))]) (jI (cs:=[.list (ns.map .int),.int (1+r1),nd L]) (ds:=b3 (List.range n)) (by walk_at "ev") rfl c1) rfl rfl ?_
   obtain⟨ys,c4,c5,c6⟩:=ul (gt:=gN 0) (ft:=iZ) (fe:=gL cX 3 (ap (ah 0) (ap (ah 1) (ap (ah 2) aJ)))) (ds:=cs.map .int) (ρ:=[none,some (.fz (nd L)),some (.fz (.int (1+r2)))]) (fun ρ=>∃o,ρ=[o,some (.fz (nd L)),some (.fz (.int (1+r2)))]) (fun _ x=>∃a:Mn,x=mD a∧VM L (1+r2) a∧D8 a=true) ⟨none,rfl⟩ (by rw[List.length_map];omega) (by
    rintro j d hj ρ ⟨o,rfl⟩
    obtain⟨c,rfl⟩:∃c:Int,d= .int c:=by
     rw[List.getElem?_map] at hj
     cases q:cs[j]? with
     |none=>rw[q] at hj;cases hj
     |some x=>rw[q] at hj;exact⟨x,(Option.some.inj hj).symm⟩
    obtain⟨m,v1,v2,em⟩:=B0 c L (1+r2) (by omega) (by omega)
    exact⟨mD m,_,BT (ρ1:=[some (.fz (.int c)),some (.fz (nd L)),some (.fz (.int (1+r2)))]) rfl rfl (kq (rv:= .fz (mD m)) (ds:=[.int c,nd L,.int (1+r2)]) (bp (ar rfl) (bp (ar rfl) (bp (ar rfl) cP))) rfl rfl em) rfl rfl,⟨_,rfl⟩,m,rfl,v1,v2⟩)
   obtain⟨ms,rfl,q6⟩:=sk (f:=mD) (Q:=fun _ a=>VM L (1+r2) a∧D8 a=true) ys 0 c6
   rw[List.length_map,List.length_map] at c5
   have tu:mI [.list (ms.map mD)]=some (.fz (lu ms)):=rfl
   have hll:(rs.map lu).length<1000000:=by rw[List.length_map];omega
   refine rE (pv:= .fz .none) (ρ1:=[some (.fz (.list (ns.map .int))),some (.fz (.int c0)),some (.fz (.int (1+r1))),some (.fz (.int (1+r2))),some (.ow (rs.map lu++[lu ms])),some (.fz (nd L)),some (.fz (.list (cs.map .int)))]) (wB (pa:= .fz (lu ms)) (d:=lu ms) rfl (iH (rv:= .fz (lu ms)) (ds:=[.list (ms.map mD)]) (bp (jI (cs:=[nd L,.int (1+r2)]) (ds:=cs.map .int) (kM (tf rfl) rfl rfl) rfl c4) cP) rfl tu) rfl rfl hll rfl) ⟨rs++[ms],_,_,by rw[List.length_append,hl];rfl,fun j r hj=> ?_,by rw[List.map_append];rfl⟩
   rcases L10.cc hj with h|⟨rfl,rfl⟩
   ·exact hr j r h
   ·refine⟨by omega,fun m hm=> ?_⟩
    obtain⟨t,ht⟩:=List.mem_iff_getElem?.mp hm
    rw[hl]
    exact q6 t m ht
  ·rintro ρ ⟨rs,o5,o6,hl,hr,rfl⟩
   rw[gC,List.length_range] at hl
   have tu:mI [.list (rs.map lu)]=some (.fz (.tuple (rs.map lu))):=rfl
   refine gp (pv:= .fz (bD ⟨1+r1,rs,[],1+r23⟩)) (ρ1:=[some (.fz (.list (ns.map .int))),some (.fz (.int c0)),some (.fz (.int (1+r1))),some (.fz (.int (1+r2))),some (.ow (rs.map lu)),o5,o6]) (l4 (ds:=[.int (1+r1),.tuple (rs.map lu),.tuple [],.int (1+r23)]) (bp (ar rfl) (bp (iH (rv:= .fz (.tuple (rs.map lu))) (ds:=[.list (rs.map lu)]) (bp (tf rfl) cP) rfl tu) (bp (by walk_at "ev") (bp (bQ (rv:= .fz (.int (1+r23))) bC (by walk_at "ev") rfl rfl (ky _ _)) cP)))) rfl (Nat.le_of_ble_eq_true rfl)) rfl ⟨_,⟨⟨by show 1≤1+r1;omega,by show 1+r1≤5;omega,by show 1≤rs.length;omega,by show rs.length≤3;omega,fun j r hj=> ?_,by show 0≤4;decide,(fun c hc=>by cases hc),List.Pairwise.nil,by show 1≤1+r23;omega,by show 1+r23≤4;omega⟩,rfl,by show 1+r1≤4;omega,fun l hl' m hm=> ?_⟩,rfl⟩
   ·obtain⟨h1,h2⟩:=hr j r hj
    refine⟨h1,fun m hm=> ?_⟩
    have:=(h2 m hm).1
    rw[show(1+r2:Int)=(rs.length:Int) by omega] at this
    exact this
   ·obtain⟨j,hj⟩:=List.mem_iff_getElem?.mp hl'
    exact((hr j l hj).2 m hm).2
 obtain⟨rv,h,b,B,rfl⟩:=key
 exact⟨b,B,h⟩
theorem GB {n r:Int} (hn:1≤n∧n≤4) (hr:0≤r∧r<2*n+1):r/n=0∨r/n=1∨r/n=2:=by
 have:n=1∨n=2∨n=3∨n=4:=by omega
 rcases this with rfl|rfl|rfl|rfl<;>omega
theorem yu {b:Bd} (B:B31 b) (ns:List Int) (hns:ns.length≤63):∃es:List Evn,es.length≤63∧(∀e∈es,EV b e)∧dY [.list (ns.map .int),.int 16,.int b.n]= .ok (.ow (es.map cV)):=by
 have n1:=B.vb.n1
 have n4:=B.n4
 obtain⟨ms,hms,esl⟩:=zQ ns (some 16) (some 63)
 have key:∃rv,iJ 6 fL [.list (ns.map .int),.int 16,.int b.n]= .ok rv∧∃es:List Evn,es.length≤63∧(∀e∈es,EV b e)∧rv= .ow (es.map cV):=by
  refine sN (T:=fun rv=>∃es:List Evn,es.length≤63∧(∀e∈es,EV b e)∧rv= .ow (es.map cV)) (ρ:=[some (.fz (.list (ns.map .int))),some (.fz (.int 16)),some (.fz (.int b.n)),none,none,none]) rfl ?_
  unfold fL
  refine iV (ρ3:=[some (.fz (.list (ns.map .int))),some (.fz (.int 16)),some (.fz (.int b.n)),some (.ow []),none,none]) (by walk_at "ev") rfl rfl ?_
  refine Ah (fun i ρ=>∃(es:List Evn) (o4 o5:Option PV),es.length=i∧(∀e∈es,EV b e)∧ρ=[some (.fz (.list (ns.map .int))),some (.fz (.int 16)),some (.fz (.int b.n)),some (.ow (es.map cV)),o4,o5]) (ds:=ms.map .int) (ρ1:=[some (.fz (.list (ns.map .int))),some (.fz (.int 16)),some (.fz (.int b.n)),some (.ow []),none,none]) (kM (pa:= .ow (ms.map .int)) (DH (rv:= .ow (ms.map .int)) (ar rfl) (uW (ar rfl) rfl) (by walk_at "ev") rfl esl) rfl rfl) ⟨[],none,none,rfl,(fun e h=>by cases h),rfl⟩ ?_ ?_
  ·rintro i d ρ hi ⟨es,o4,o5,hl,he,rfl⟩
   have him:i<ms.length:=by
    have:=(List.getElem?_eq_some_iff.mp hi).1
    rwa [List.length_map] at this
   obtain⟨x,rfl⟩:∃x:Int,d= .int x:=by
    rw[List.getElem?_map] at hi
    cases q:ms[i]? with
    |none=>rw[q] at hi;cases hi
    |some x=>rw[q] at hi;exact⟨x,(Option.some.inj hi).symm⟩
   refine⟨_,rfl,?_⟩
   have mu:gz (.int 2) (.int b.n)=some (.fz (.int (2*b.n))):=Hz ⟨by decide,by decide⟩
   have dd:=gA x (s:=29) (m:=2*b.n+1) (by decide) (by decide) (by omega)
   have db:=lJ (x:=x) (s:=29) (m:=2*b.n+1) (by omega)
   generalize zf x 29 (2*b.n+1)=r at dd db
   have hll:(es.map cV).length<1000000:=by rw[List.length_map];omega
   refine iV (ρ3:=[some (.fz (.list (ns.map .int))),some (.fz (.int 16)),some (.fz (.int b.n)),some (.ow (es.map cV)),some (.fz (.int x)),some (.fz (.int r))]) (kq (rv:= .fz (.int r)) (ds:=[.int x,.int 29,.int (2*b.n+1)]) (bp (ar rfl) (bp bC (bp (bQ (rv:= .fz (.int (2*b.n+1))) (bQ (rv:= .fz (.int (2*b.n))) bC (ar rfl) rfl rfl mu) bC rfl rfl (ky _ _)) cP))) rfl rfl dd) rfl rfl ?_
   have mo:lM (.int r) (.int b.n)=some (.fz (.int (r % b.n))):=oj (by omega)
   have di:u6 (.int r) (.int b.n)=some (.fz (.int (r/b.n))):=vY ⟨by omega,by omega⟩
   have m0:=Int.emod_nonneg r (show b.n≠0 by omega)
   have m1:=Int.emod_lt_of_pos r (show 0<b.n by omega)
   generalize r % b.n=k at mo m0 m1
   obtain⟨k,rfl⟩:∃j:Nat,k=(j:Int):=⟨k.toNat,by omega⟩
   have pk:=GB (n:=b.n) (r:=r) ⟨n1,n4⟩ db
   obtain⟨e,he',ee⟩:∃e:Evn,EV b e∧bH (.list [.tuple [.str "down",.int (k:Int)],.tuple [.str "up",.int (k:Int)],.tuple [.str "turn",.int 0]]) (.int (r/b.n))=some (.fz (cV e)):=by
    rcases pk with q|q|q
    ·exact⟨.down k,m1,by rw[q];rfl⟩
    ·exact⟨.up k,m1,by rw[q];rfl⟩
    ·exact⟨.turn,trivial,by rw[q];rfl⟩
   refine rE (pv:= .fz .none) (ρ1:=[some (.fz (.list (ns.map .int))),some (.fz (.int 16)),some (.fz (.int b.n)),some (.ow (es.map cV++[cV e])),some (.fz (.int x)),some (.fz (.int r))]) (wB (pa:= .fz (cV e)) (d:=cV e) rfl (bQ (rv:= .fz (cV e)) (show _=Res.ok (PV.ow [.tuple [.str "down",.int (k:Int)],.tuple [.str "up",.int (k:Int)],.tuple [.str "turn",.int 0]],_) by walk_at "ev") (by walk_at "ev") rfl rfl ee) rfl rfl hll rfl) ⟨es++[e],_,_,by rw[List.length_append,hl];rfl,fun x hx=>(List.mem_append.mp hx).elim (he x) fun z=>by rw[List.mem_singleton.mp z];exact he',by rw[List.map_append];rfl⟩
  ·rintro ρ ⟨es,o4,o5,hl,he,rfl⟩
   rw[List.length_map] at hl
   exact gp (pv:= .pl 3) (ρ1:=[some (.fz (.list (ns.map .int))),some (.fz (.int 16)),some (.fz (.int b.n)),some (.ow (es.map cV)),o4,o5]) (tf rfl) rfl ⟨es,by omega,he,rfl⟩
 obtain⟨rv,h,es,h1,h2,rfl⟩:=key
 exact⟨es,h1,h2,h⟩
noncomputable def lX (b:Bd) (ac:Ac):Evn→Ac×Sn
 | .down k=>match ac k with
  |some _=>(ac,[])
  |none=>(eX ac k (some (look b (c7 ac) k)),ie ac (look b (c7 ac) k))
 | .up k=>match ac k with
  |some a=>(eX ac k none,vi (eX ac k none) a)
  |none=>(ac,[])
 | .turn=>(ac,[])
section
variable {b:Bd} (B:B31 b)
include B
theorem Fn {L:Int} {k:Nat} (h0:0≤L) (hL:L<b.ls.length) (hk:(k:Int)<b.n):Ip (look b L k)=true:=by
 have hs:∀{L:Nat},L<b.ls.length→D8 (kC b L k)=true:=fun{L} hL=>by
  obtain⟨l,h1,h2⟩:=A8 B.vb hL hk
  exact B.sm l (List.mem_of_getElem? h1) _ (List.mem_of_getElem? h2)
 have h1:=hs (L:=L.toNat) (by omega)
 have h2:=hs (L:=0) (by have:=B.vb.l1;omega)
 have h3:=(kN B.vb h0 hL hk).2
 unfold look at h3⊢
 split at h3
 ·rename_i q
  rw[if_pos q] at*
  generalize kC b 0 k=m at h2 h3
  cases m<;>first|rfl|exact absurd rfl h3|cases h2
 ·rename_i q
  rw[if_neg q] at*
  generalize kC b L.toNat k=m at h1 h3
  cases m<;>first|rfl|exact absurd rfl h3|cases h1
theorem uZ {ac:Ac} {e:Evn} (sa:SA b ⟨ac,none,none⟩) (he:EV b e):cW b ⟨ac,none,none⟩ e=(⟨(lX b ac e).1,none,none⟩,(lX b ac e).2):=by
 have lm:=nv B.vb sa
 cases e with
 |down k=>
  cases q:ac k with
  |some a=>
   show gD b (⟨ac,none,none⟩,[]) k=(⟨(match ac k with|some _=>(ac,[])|none=>_).1,none,none⟩,(match ac k with|some _=>(ac,[])|none=>_).2)
   rw[q]
   unfold gD
   rw[if_pos (by show((ac k).isSome||tL none k)=true;rw[q];rfl)]
  |none=>
   have hA:=Fn B (L:=c7 ac) (k:=k) lm.1 lm.2.1 he
   show gD b (⟨ac,none,none⟩,[]) k=(⟨(match ac k with|some _=>(ac,[])|none=>(eX ac k (some (look b (c7 ac) k)),ie ac (look b (c7 ac) k))).1,none,none⟩,(match ac k with|some _=>(ac,[])|none=>(eX ac k (some (look b (c7 ac) k)),ie ac (look b (c7 ac) k))).2)
   rw[q,yZ (s:=⟨ac,none,none⟩) (m:=look b (c7 ac) k) q rfl rfl]
   generalize look b (c7 ac) k=m at hA
   cases m with
   |letter c=>
    show(if(decide (j6 ac none=0)&& !(d9 b [k]).isEmpty)=true then _ else fy (⟨ac,none,none⟩,[]) k (.letter c))=_
    rw[zS B.nc,if_neg (by simp)]
    rfl
   |layer n=>rfl
   |none=>rfl
   |_=>cases hA
 |up k=>
  cases q:ac k with
  |some a=>
   show lO b (⟨ac,none,none⟩,[]) k=(⟨(match ac k with|some a=>(eX ac k none,vi (eX ac k none) a)|none=>(ac,[])).1,none,none⟩,(match ac k with|some a=>(eX ac k none,vi (eX ac k none) a)|none=>(ac,[])).2)
   rw[q,AZ (s:=⟨ac,none,none⟩) q rfl]
   rfl
  |none=>
   show lO b (⟨ac,none,none⟩,[]) k=(⟨(match ac k with|some a=>(eX ac k none,vi (eX ac k none) a)|none=>(ac,[])).1,none,none⟩,(match ac k with|some a=>(eX ac k none,vi (eX ac k none) a)|none=>(ac,[])).2)
   rw[q]
   unfold lO
   rw[if_neg (by show¬(false=true);decide)]
   unfold go
   show(match ac k with|some a=>_|none=>_)=_
   rw[q]
 |turn=>rfl
end
noncomputable def LW (ps:List (Nat×Mn)) (js:List Nat) (J:bz):bz:= .dead:: .dct (ps.map fU):: .lst (js.map SV.rf)::J
section
variable {ps:List (Nat×Mn)} {js:List Nat} {J K:bz} {c:Cell} {ρ:cg} {ω ω1 ω2:bz} {x y z:SV} {d dx dy:D} {ds:List D}
theorem yd:(LW ps js (J++c::K))[(LW ps js J).length]? =some c:=by
 show(Cell.dead:: .dct (ps.map fU):: .lst (js.map SV.rf)::(J++c::K))[J.length+1+1+1]? =_
 rw[List.getElem?_cons_succ,List.getElem?_cons_succ,List.getElem?_cons_succ,List.getElem?_append_right (Nat.le_refl _),Nat.sub_self]
 rfl
theorem ij:(LW ps js (J++[c]))[(LW ps js J).length]? =some c:=yd
theorem Dh {f:D→D→Option RV} (hx:sh ω x=some dx) (hy:sh ω y=some dy) (h:f dx dy=some (.ow ds)):kA f x y ω= .ok (.rf ω.length) (ω++[.lst (ds.map .fz)]):=by
 unfold kA
 rw[hx,hy]
 show((RS.ofO ω (f dx dy)).bind fun rv ω1=>jg ω1 rv)=_
 rw[h];rfl
theorem pA {F:gX} {n:Nat} {fa:kl} {xs:List SV} (ha:fa ρ ω= .ok xs ω1) (hn:xs.length=n) (hF:F xs ω1= .ok x ω2):qz F n fa ρ ω= .ok x ω2:=by
 unfold qz
 rw[ha,RS.bind_ok,if_pos hn,hF]
 rfl
theorem oV {α:Type} {gt:nk} {ft:gZ} {fe:cB} (e:α→D) (f:α→Option SV) (ω:bz) (I:cg→Prop):∀(xs:List α) (ρ:cg) (acc:List SV),I ρ→acc.length+xs.length≤1000000→(∀x∈xs,∀ρ,I ρ→∃ρ',gt (.fz (e x)) ρ ω= .ok ρ' ω∧I ρ'∧((∃y,f x=some y∧ft ρ' ω= .ok true ω∧fe ρ' ω= .ok y ω)∨(f x=none∧ft ρ' ω= .ok false ω)))→bS gt ft fe (xs.map e) ρ ω acc= .ok (acc++xs.filterMap f) ω
 |[],ρ,acc,_,_,_=>by show RS.ok acc ω=_;rw[List.filterMap_nil,List.append_nil]
 |x::r,ρ,acc,h0,hl,hs=>by
  obtain⟨ρ',h1,h4,h⟩:=hs x List.mem_cons_self ρ h0
  rw[List.length_cons] at hl
  show((gt (.fz (e x)) ρ ω).bind _)=_
  rcases h with⟨y,hy,h2,h3⟩|⟨hy,h2⟩
  ·rw[h1,RS.bind_ok,h2,RS.bind_ok,if_pos rfl,h3,RS.bind_ok,if_pos (by omega),oV e f ω I r ρ' _ h4 (by rw[List.length_append,List.length_singleton];omega) fun y hy=>hs y (List.mem_cons_of_mem _ hy),List.append_assoc,List.filterMap_cons_some hy]
   rfl
  ·rw[h1,RS.bind_ok,h2,RS.bind_ok,if_neg Bool.false_ne_true,oV e f ω I r ρ' _ h4 (by omega) fun y hy=>hs y (List.mem_cons_of_mem _ hy),List.filterMap_cons_none hy]
end
section
variable {b:Bd} {ac:Ac} {ps:List (Nat×Mn)} {js:List Nat} {J:bz}
theorem A0 (vb:VB b) (sa:SA b ⟨ac,none,none⟩) (hp:ps.Perm (dJ ac)):∃K,de [.rf 1] (LW ps js J)= .ok (.fz (.int (c7 ac))) (LW ps js (J++K)):=by
 have hl5:=oz hp
 obtain⟨ns,hns⟩:∃ns,ns=ps.filterMap BP:=⟨_,rfl⟩
 have nl:ns.length≤5:=by rw[hns];exact Nat.le_trans (List.length_filterMap_le _ _) hl5
 have hd:(ps.map fU).map (·.2)=(ps.map fun p=>mD p.2).map SV.fz:=by rw[List.map_map,List.map_map];rfl
 have cv:∀ω:bz,bS (fM 0) (bM (aW (aY dE (aY bH (ah 0) (pC (.int 0))) (pC (.str "layer"))))) (ai (aY bH (ah 0) (pC (.int 1)))) (ps.map fun p=>mD p.2) [none] ω []= .ok ((ns.map PyData.int).map SV.fz) ω:=fun ω=>by
  refine(oV (fun p:Nat×Mn=>mD p.2) (fun p=>(BP p).map fun n=>SV.fz (.int n)) ω (fun ρ=>∃o,ρ=[o]) ps [none] [] ⟨none,rfl⟩ (by rw[List.length_nil];omega) ?_).trans (by rw[hns,List.nil_append,List.map_map,List.map_filterMap];rfl)
  rintro⟨k,a⟩ _ ρ ⟨o,rfl⟩
  refine⟨[some (.fz (mD a))],rfl,⟨_,rfl⟩,?_⟩
  have e1:=kU a
  have e2:=t9 a
  have ht:bM (aW (aY dE (aY bH (ah 0) (pC (.int 0))) (pC (.str "layer")))) [some (.fz (mD a))] ω= .ok a.isLy ω:=aU (by walk_at "ev")
  cases a with
  |layer n=>exact .inl ⟨.fz (.int n),rfl,ht,aj (bQ (rv:= .fz (.int n)) (ar rfl) bC rfl rfl hX)⟩
  |_=>exact .inr ⟨rfl,ht⟩
 have ad:eW (.list [.int 0]) (.list (ns.map .int))=some (.ow ((0::ns).map .int)):=by
  show(if 1+(ns.map PyData.int).length≤1000000 then some (RV.ow ([.int 0]++ns.map PyData.int)) else none)=_
  rw[List.length_map,if_pos (by omega)]
  rfl
 have hm:yh [.list ((0::ns).map .int)]=some (.fz (.int (c7 ac))):=by
  have e:vg (0::ns)=c7 ac:=by
   obtain⟨m1,m2⟩:=vE (ns:=0::ns) (by rw[List.length_cons];omega)
   obtain⟨l0,l1,l2,l3⟩:=nv vb sa
   have mem:∀n:Int,n∈ns↔∃k,k<5∧ac k=some (.layer n):=fun n=>by
    rw[hns]
    constructor
    ·intro h
     obtain⟨⟨k,a⟩,h1,h2⟩:=List.mem_filterMap.mp h
     have:=(fZ hp).mp h1
     cases a with
     |layer j=>cases h2;exact⟨k,this⟩
     |_=>cases h2
    ·rintro⟨k,h1,h2⟩
     exact List.mem_filterMap.mpr ⟨(k,.layer n),(fZ hp).mpr ⟨h1,h2⟩,rfl⟩
   have a1:vg (0::ns)≤c7 ac:=by
    rcases List.mem_cons.mp m1 with h|h
    ·rw[h];exact l0
    ·obtain⟨k,_,h2⟩:=(mem _).mp h
     exact l2 k _ h2
   have a2:c7 ac≤vg (0::ns):=by
    rcases l3 with h|⟨k,h⟩
    ·show c7 (Stn.mk ac none none).ac≤_
     rw[h];exact m2 0 List.mem_cons_self
    ·refine m2 _ (List.mem_cons_of_mem _ ((mem _).mpr ⟨k,?_,h⟩))
     have:=(sa.ac k _ h).1
     have:=vb.n5
     omega
   omega
  show(match i4 ((0::ns).map PyData.int) with|some ns=>if 0<ns.length then some (RV.fz (.int (vg ns))) else none|none=>none)=_
  rw[L3.iQ]
  show(if 0<(0::ns).length then some (RV.fz (.int (vg (0::ns)))) else none)=_
  rw[if_pos (by rw[List.length_cons];omega),e]
 refine⟨[.lst ([PyData.int 0].map .fz),.lst ((ns.map PyData.int).map .fz),.lst (((0::ns).map PyData.int).map .fz)],?_⟩
 have h1:ai (dG (ap (pC (.int 0)) aJ)) [some (.rf 1)] (LW ps js J)= .ok (.rf (LW ps js J).length) (LW ps js (J++[.lst ([PyData.int 0].map .fz)])):=dU (ds:=[.int 0]) (by walk_at "ev")
 have h2:nN 1 [] (aF 0) (fM 0) (bM (aW (aY dE (aY bH (ah 0) (pC (.int 0))) (pC (.str "layer"))))) (ai (aY bH (ah 0) (pC (.int 1)))) [some (.rf 1)] (LW ps js (J++[.lst ([PyData.int 0].map .fz)]))= .ok (.rf (LW ps js (J++[.lst ([PyData.int 0].map .fz)])).length) (LW ps js (J++[.lst ([PyData.int 0].map .fz)]++[.lst ((ns.map PyData.int).map .fz)])):=BJ (i:=1) (kvs:=ps.map fU) (ω2:=(LW ps js (J++[.lst ([PyData.int 0].map .fz)])).set 1 .dead) (bR rfl) rfl hd (cv _)
 have h3:kA eW (.rf (LW ps js J).length) (.rf (LW ps js (J++[.lst ([PyData.int 0].map .fz)])).length) (LW ps js (J++[.lst ([PyData.int 0].map .fz)]++[.lst ((ns.map PyData.int).map .fz)]))= .ok (.rf (LW ps js (J++[.lst ([PyData.int 0].map .fz)]++[.lst ((ns.map PyData.int).map .fz)])).length) (LW ps js (J++[.lst ([PyData.int 0].map .fz)]++[.lst ((ns.map PyData.int).map .fz)]++[.lst (((0::ns).map PyData.int).map .fz)])):=
  Dh (eh (ds:=[.int 0]) (by rw[List.append_assoc];exact yd)) (eh (ds:=ns.map .int) ij) ad
 refine(jo (ρ:=[some (.rf 1)]) rfl (iA (BE (ds:=[.list ((0::ns).map .int)]) (aD (dg h1 h2 h3) aZ) (kh (eh ij)) hm))).trans ?_
 simp only[List.append_assoc,List.cons_append,List.nil_append]
theorem Ir (x:Str) (h:PyData.strOk x=true):dE (.str x) (.str x)=some (.fz (.bool true)):=uI h
structure DueT (b:Bd) (ac:Ac) (e:Evn) (js:List Nat) (J:bz) (r:SV) (ω':bz):Prop where
 out:∃(ps':List (Nat×Mn)) (K:bz),ps'.Perm (dJ (lX b ac e).1)∧r= .rf (LW ps' js (J++K)).length∧ω'=LW ps' js (J++K++[.lst (((lX b ac e).2.map fq).map .fz)])
theorem Fb (B:B31 b) {e:Evn} (he:EV b e) (sa:SA b ⟨ac,none,none⟩) (hp:ps.Perm (dJ ac)):∃r ω',fF [.fz (bD b),.rf 1,.fz (cV e)] (LW ps js J)= .ok r ω'∧DueT b ac e js J r ω':=by
 have vb:=B.vb
 have n5:=vb.n5
 have hl5:=oz hp
 have ak:AK ac:=fun k a h=>⟨by have:=(sa.ac k a h).1;show k<5;have h2:((k:Nat):Int)<b.n:=this;omega,(sa.ac k a h).2.lb⟩
 have lbs:∀m∈ps.map (·.2),LB m:=fun m hm=>by
  obtain⟨q,h1,rfl⟩:=List.mem_map.mp hm
  exact(ak _ _ ((fZ hp).mp h1).2).2
 have eud:dE (.str "up") (.str "down")=some (.fz (.bool false)):=mq (by decide+kernel) (by decide+kernel) (by decide+kernel)
 have edu:dE (.str "down") (.str "up")=some (.fz (.bool false)):=mq (by decide+kernel) (by decide+kernel) (by decide+kernel)
 have etd:dE (.str "turn") (.str "down")=some (.fz (.bool false)):=mq (by decide+kernel) (by decide+kernel) (by decide+kernel)
 have etu:dE (.str "turn") (.str "up")=some (.fz (.bool false)):=mq (by decide+kernel) (by decide+kernel) (by decide+kernel)
 have edd:dE (.str "down") (.str "down")=some (.fz (.bool true)):=uI (by decide+kernel)
 have euu:dE (.str "up") (.str "up")=some (.fz (.bool true)):=uI (by decide+kernel)
 refine wD (ρ:=[some (.fz (bD b)),some (.rf 1),some (.fz (cV e)),none,none,none,none]) rfl ?_
 have nil:∀{ρ:cg} {ps':List (Nat×Mn)} {K:bz} {N C:cg→bz→Prop},ps'.Perm (dJ (lX b ac e).1)→(lX b ac e).2=[]→GoS (gi (ai (dG aJ)) ρ (LW ps' js (J++K))) N C (DueT b ac e js J):=fun{ρ ps' K N C} h1 h2=>by
  refine nX (dU (ds:=[]) (show dG aJ (bW ρ)= .ok (.ow [],bW ρ) from rfl)) ⟨ps',K,h1,rfl,?_⟩
  rw[h2];rfl
 unfold ku
 cases e with
 |down k=>
  have hk:(k:Int)<b.n:=he
  have hk5:k<5:=by omega
  refine cG (x:= .fz (cV (.down k))) (ρ1:=[some (.fz (bD b)),some (.rf 1),some (.fz (cV (.down k))),some (.fz (.str "down")),some (.fz (nd k)),none,none]) (aj (ar rfl)) rfl ?_
  have din:=gK hp hk5
  cases q:ac k with
  |some a=>
   rw[q] at din
   refine dL (ω1:=LW ps js J) (dD (aU (b:=true) (by walk_at "ev")) (bj (b:=false) (by
    have:=kj (neg:=true) (ω:=LW ps js J) (ρ:=[some (.fz (bD b)),some (.rf 1),some (.fz (cV (.down k))),some (.fz (.str "down")),some (.fz (nd k)),none,none]) (fk:=ai (ah 4)) (fd:=aF 1) (i:=1) (kvs:=ps.map fU) (k:= .inl (k:Int)) (x:= .fz (nd k)) (aj (ar rfl)) (bR rfl) rfl rfl
    rw[din] at this
    exact this))) ?_
   refine dL (ω1:=LW ps js J) (c9 (aU (b:=false) (by walk_at "ev"))) (dr ?_)
   have:=nil (ρ:=[some (.fz (bD b)),some (.rf 1),some (.fz (cV (.down k))),some (.fz (.str "down")),some (.fz (nd k)),none,none]) (ps':=ps) (K:=[]) (N:=fun _ ω'=>DueT b ac (.down k) js J (.fz .none) ω') (C:=fun _ _=>False) (by show ps.Perm (dJ (match ac k with|some _=>(ac,[])|none=>_).1);rw[q];exact hp) (by show(match ac k with|some _=>(ac,[])|none=>_).2=[];rw[q])
   rw[List.append_nil] at this
   exact this
  |none=>
   rw[q] at din
   refine iY (ω1:=LW ps js J) (dD (aU (b:=true) (by walk_at "ev")) (bj (b:=true) (by
    have:=kj (neg:=true) (ω:=LW ps js J) (ρ:=[some (.fz (bD b)),some (.rf 1),some (.fz (cV (.down k))),some (.fz (.str "down")),some (.fz (nd k)),none,none]) (fk:=ai (ah 4)) (fd:=aF 1) (i:=1) (kvs:=ps.map fU) (k:= .inl (k:Int)) (x:= .fz (nd k)) (aj (ar rfl)) (bR rfl) rfl rfl
    rw[din] at this
    exact this))) ?_
   refine lF ?_
   obtain⟨K1,el⟩:=A0 (js:=js) (J:=J) vb sa hp
   obtain⟨l0,l1,_,_⟩:=nv vb sa
   have dm:lX b ac (.down k)=(eX ac k (some (look b (c7 ac) k)),ie ac (look b (c7 ac) k)):=by
    show(match ac k with|some _=>(ac,[])|none=>(eX ac k (some (look b (c7 ac) k)),ie ac (look b (c7 ac) k)))=_
    rw[q]
   have hlk:look b (c7 ac) k=if(kC b (c7 ac).toNat k).isB=true then kC b 0 k else kC b (c7 ac).toNat k:=rfl
   have lv:=(kN vb (L:=c7 ac) (k:=k) l0 l1 hk).1.lb
   obtain⟨d1,x1,x2⟩:=tY vb (L:=(c7 ac).toNat) (k:=k) (by have:(c7 ac)<b.ls.length:=l1;omega) hk
   obtain⟨d0,x3,x4⟩:=tY vb (L:=0) (k:=k) (by have:=vb.l1;omega) hk
   have x1:bH (.tuple (b.ls.map lu)) (.int (c7 ac))=some (.fz d1):=by
    rw[show(c7 ac)=(((c7 ac).toNat:Nat):Int) from(Int.toNat_of_nonneg l0).symm]
    exact x1
   have x3:bH (.tuple (b.ls.map lu)) (.int 0)=some (.fz d0):=x3
   have x0:bH (bD b) (.int 1)=some (.fz (.tuple (b.ls.map lu))):=hX
   generalize kC b (c7 ac).toNat k=m1 at x2 hlk
   generalize kC b 0 k=m0 at x4 hlk
   refine cG (x:= .fz (mD m1)) (ω1:=LW ps js (J++K1)) (ρ1:=[some (.fz (bD b)),some (.rf 1),some (.fz (cV (.down k))),some (.fz (.str "down")),some (.fz (nd k)),some (.fz (mD m1)),none]) (dc (dx:=d1) (dy:=nd k) (dc (dx:= .tuple (b.ls.map lu)) (dy:= .int (c7 ac)) (aj (bQ (rv:= .fz (.tuple (b.ls.map lu))) (ar rfl) bC rfl rfl x0)) (pA (xs:=[.rf 1]) (aD (bR rfl) aZ) rfl el) x1) (aj (ar rfl)) x2) rfl ?_
   refine lF ?_
   have y1:=kU m1
   have y2:=tW m1
   refine qJ (ρ1:=[some (.fz (bD b)),some (.rf 1),some (.fz (cV (.down k))),some (.fz (.str "down")),some (.fz (nd k)),some (.fz (mD (look b (c7 ac) k))),none]) (ω1:=LW ps js (J++K1)) (by
    rw[hlk]
    cases qb:m1.isB with
    |true=>
     rw[qb] at y2
     rw[if_pos rfl]
     exact hG (aU (b:=true) (by walk_at "ev")) (sL (x:= .fz (mD m0)) (aj (bQ (rv:= .fz (mD m0)) (bQ (rv:= .fz d0) (bQ (rv:= .fz (.tuple (b.ls.map lu))) (ar rfl) bC rfl rfl x0) bC rfl rfl x3) (ar rfl) rfl rfl x4)) rfl)
    |false=>
     rw[qb] at y2
     rw[if_neg Bool.false_ne_true]
     exact ji (aU (b:=false) (by walk_at "ev")) rfl) ?_
   have hA:gl ac (look b (c7 ac) k)=decide (look b (c7 ac) k∈ps.map (·.2)):=decide_eq_decide.mpr (hp.map (·.2)).symm.mem_iff
   clear hlk x2 x4 y1 y2
   generalize look b (c7 ac) k=m at dm lv hA
   refine lF ?_
   have vs:=pH ps
   refine cG (x:= .rf (LW ps js (J++K1)).length) (ω1:=LW ps js (J++K1++[.lst (((ps.map (·.2)).map mD).map .fz)])) (ρ1:=[some (.fz (bD b)),some (.rf 1),some (.fz (cV (.down k))),some (.fz (.str "down")),some (.fz (nd k)),some (.fz (mD m)),some (.rf (LW ps js (J++K1)).length)]) ((sr (kvs:=ps.map fU) (bR rfl) rfl).trans (by rw[vs];rfl)) rfl ?_
   refine lF ?_
   obtain⟨qs,d2,d3⟩:=wK hp (k:=k) (a:=m) hk5
   refine qJ (ρ1:=[some (.fz (bD b)),some (.rf 1),some (.fz (cV (.down k))),some (.fz (.str "down")),some (.fz (nd k)),some (.fz (mD m)),some (.rf (LW ps js (J++K1)).length)]) (ω1:=LW qs js (J++K1++[.lst (((ps.map (·.2)).map mD).map .fz)])) ((xF (k:= .inl (k:Int)) (y:= .fz (mD m)) (kvs:=ps.map fU) (i:=1) (aj (ar rfl)) (bR rfl) (aj (d:=nd k) (ar rfl)) rfl rfl (by rw[List.length_map];omega)).trans (by rw[d2];rfl)) ?_
   have hn:sh (LW qs js (J++K1++[.lst (((ps.map (·.2)).map mD).map .fz)])) (.rf (LW ps js (J++K1)).length)=some (.list ((ps.map (·.2)).map mD)):=eh (show(LW qs js (J++K1++[.lst (((ps.map (·.2)).map mD).map .fz)]))[(LW qs js (J++K1)).length]? =_ from ij)
   have y1:=kU m
   have y2:=ia m
   have perm:qs.Perm (dJ (lX b ac (.down k)).1):=by rw[dm];exact d3
   have fin:(lX b ac (.down k)).2=[]→GoS (gi (ai (dG aJ)) [some (.fz (bD b)),some (.rf 1),some (.fz (cV (.down k))),some (.fz (.str "down")),some (.fz (nd k)),some (.fz (mD m)),some (.rf (LW ps js (J++K1)).length)] (LW qs js (J++K1++[.lst (((ps.map (·.2)).map mD).map .fz)]))) (fun _ ω'=>DueT b ac (.down k) js J (.fz .none) ω') (fun _ _=>False) (DueT b ac (.down k) js J):=fun h=>by
    have:=nil (ρ:=[some (.fz (bD b)),some (.rf 1),some (.fz (cV (.down k))),some (.fz (.str "down")),some (.fz (nd k)),some (.fz (mD m)),some (.rf (LW ps js (J++K1)).length)]) (K:=K1++[.lst (((ps.map (·.2)).map mD).map .fz)]) (N:=fun _ ω'=>DueT b ac (.down k) js J (.fz .none) ω') (C:=fun _ _=>False) perm h
    rw[←List.append_assoc] at this
    exact this
   cases qm:m.isL with
   |false=>
    rw[qm] at y2
    refine dL (ω1:=LW qs js (J++K1++[.lst (((ps.map (·.2)).map mD).map .fz)])) (c9 (aU (b:=false) (by walk_at "ev"))) (dr (fin ?_))
    rw[dm]
    show ie ac m=[]
    cases m with
    |letter c=>cases qm
    |_=>rfl
   |true=>
    rw[qm] at y2
    have nin:=t8 lv lbs
    rw[←hA] at nin
    have cnd:g6 (bM (aW (aY dE (aY bH (ah 5) (pC (.int 0))) (pC (.str "letter"))))) (bV (je mU (ai (ah 5)) (aF 6))) [some (.fz (bD b)),some (.rf 1),some (.fz (cV (.down k))),some (.fz (.str "down")),some (.fz (nd k)),some (.fz (mD m)),some (.rf (LW ps js (J++K1)).length)] (LW qs js (J++K1++[.lst (((ps.map (·.2)).map mD).map .fz)]))= .ok (!gl ac m) (LW qs js (J++K1++[.lst (((ps.map (·.2)).map mD).map .fz)])):=dD (aU (b:=true) (by walk_at "ev")) (bj (dg (x:= .fz (mD m)) (aj (ar rfl)) (bR rfl) (kg rfl hn nin)))
    cases m with
    |letter c=>
     cases qh:gl ac (.letter c) with
     |true=>
      rw[qh] at cnd
      refine dL cnd (dr (fin ?_))
      rw[dm]
      show(if gl ac (.letter c)=true then[] else _)=[]
      rw[qh,if_pos rfl]
     |false=>
      rw[qh] at cnd
      have i1:bH (mD (.letter c)) (.int 1)=some (.fz (.str (jN c))):=hX
      refine iY cnd (Bg (dU (ds:=[(c,true)].map fq) (show _=Res.ok (PV.ow [.tuple [.str (jN c),.str "down"]],_) by walk_at "ev")) ⟨qs,K1++[.lst (((ps.map (·.2)).map mD).map .fz)],perm,by rw[←List.append_assoc],?_⟩)
      rw[dm,←List.append_assoc]
      show _=LW qs js (_++[.lst (((if gl ac (.letter c)=true then[] else[(c,true)]).map fq).map .fz)])
      rw[qh,if_neg Bool.false_ne_true]
      rfl
    |_=>cases qm
 |up k=>
  have hk:(k:Int)<b.n:=he
  have hk5:k<5:=by omega
  refine cG (x:= .fz (cV (.up k))) (ρ1:=[some (.fz (bD b)),some (.rf 1),some (.fz (cV (.up k))),some (.fz (.str "up")),some (.fz (nd k)),none,none]) (aj (ar rfl)) rfl ?_
  have din:=gK hp hk5
  refine dL (ω1:=LW ps js J) (c9 (aU (b:=false) (by walk_at "ev"))) ?_
  cases q:ac k with
  |none=>
   rw[q] at din
   refine dL (ω1:=LW ps js J) (dD (aU (b:=true) (by walk_at "ev")) (bj (b:=false) (by
    have:=kj (neg:=false) (ω:=LW ps js J) (ρ:=[some (.fz (bD b)),some (.rf 1),some (.fz (cV (.up k))),some (.fz (.str "up")),some (.fz (nd k)),none,none]) (fk:=ai (ah 4)) (fd:=aF 1) (i:=1) (kvs:=ps.map fU) (k:= .inl (k:Int)) (x:= .fz (nd k)) (aj (ar rfl)) (bR rfl) rfl rfl
    rw[din] at this
    exact this))) (dr ?_)
   have:=nil (ρ:=[some (.fz (bD b)),some (.rf 1),some (.fz (cV (.up k))),some (.fz (.str "up")),some (.fz (nd k)),none,none]) (ps':=ps) (K:=[]) (N:=fun _ ω'=>DueT b ac (.up k) js J (.fz .none) ω') (C:=fun _ _=>False) (by show ps.Perm (dJ (match ac k with|some a=>_|none=>(ac,[])).1);rw[q];exact hp) (by show(match ac k with|some a=>_|none=>(ac,[])).2=[];rw[q])
   rw[List.append_nil] at this
   exact this
  |some a=>
   rw[q] at din
   have dm:lX b ac (.up k)=(eX ac k none,vi (eX ac k none) a):=by
    show(match ac k with|some a=>(eX ac k none,vi (eX ac k none) a)|none=>(ac,[]))=_
    rw[q]
   refine iY (ω1:=LW ps js J) (dD (aU (b:=true) (by walk_at "ev")) (bj (b:=true) (by
    have:=kj (neg:=false) (ω:=LW ps js J) (ρ:=[some (.fz (bD b)),some (.rf 1),some (.fz (cV (.up k))),some (.fz (.str "up")),some (.fz (nd k)),none,none]) (fk:=ai (ah 4)) (fd:=aF 1) (i:=1) (kvs:=ps.map fU) (k:= .inl (k:Int)) (x:= .fz (nd k)) (aj (ar rfl)) (bR rfl) rfl rfl
    rw[din] at this
    exact this))) ?_
   refine lF ?_
   obtain⟨qs,d1,d2⟩:=t6 hp (k:=k)
   have lb:=(ak k a q).2
   have lbq:∀m∈qs.map (·.2),LB m:=fun m hm=>by
    obtain⟨p,h1,rfl⟩:=List.mem_map.mp hm
    obtain⟨h2,h3⟩:=(fZ d2).mp h1
    unfold eX at h3
    split at h3
    ·cases h3
    ·exact(ak _ _ h3).2
   refine cG (x:= .fz (mD a)) (ω1:=LW qs js J) (ρ1:=[some (.fz (bD b)),some (.rf 1),some (.fz (cV (.up k))),some (.fz (.str "up")),some (.fz (nd k)),some (.fz (mD a)),none]) ((x9 (k:= .inl (k:Int)) (kvs:=ps.map fU) (kvs0:=ps.map fU) (i:=1) (bR rfl) rfl (aj (d:=nd k) (ar rfl)) rfl rfl din).trans (by rw[d1];rfl)) rfl ?_
   have hA:gl (eX ac k none) a=decide (a∈qs.map (·.2)):=decide_eq_decide.mpr (d2.map (·.2)).symm.mem_iff
   have y1:=kU a
   have y2:=ia a
   have perm:qs.Perm (dJ (lX b ac (.up k)).1):=by rw[dm];exact d2
   cases qm:a.isL with
   |false=>
    rw[qm] at y2
    refine dL (ω1:=LW qs js J) (c9 (aU (b:=false) (by walk_at "ev"))) (dr ?_)
    have:=nil (ρ:=[some (.fz (bD b)),some (.rf 1),some (.fz (cV (.up k))),some (.fz (.str "up")),some (.fz (nd k)),some (.fz (mD a)),none]) (K:=[]) (N:=fun _ ω'=>DueT b ac (.up k) js J (.fz .none) ω') (C:=fun _ _=>False) perm (by
     rw[dm]
     show vi _ a=[]
     cases a with
     |letter c=>cases qm
     |_=>rfl)
    rw[List.append_nil] at this
    exact this
   |true=>
    rw[qm] at y2
    have nin:=t8 lb lbq
    rw[←hA] at nin
    have vs:=pH qs
    have dv:mC (aF 1) [some (.fz (bD b)),some (.rf 1),some (.fz (cV (.up k))),some (.fz (.str "up")),some (.fz (nd k)),some (.fz (mD a)),none] (LW qs js J)= .ok (.rf (LW qs js J).length) (LW qs js (J++[.lst (((qs.map (·.2)).map mD).map .fz)])):=(sr (kvs:=qs.map fU) (bR rfl) rfl).trans (by rw[vs];rfl)
    have cnd:g6 (bM (aW (aY dE (aY bH (ah 5) (pC (.int 0))) (pC (.str "letter"))))) (bV (je mU (ai (ah 5)) (mC (aF 1)))) [some (.fz (bD b)),some (.rf 1),some (.fz (cV (.up k))),some (.fz (.str "up")),some (.fz (nd k)),some (.fz (mD a)),none] (LW qs js J)= .ok (!gl (eX ac k none) a) (LW qs js (J++[.lst (((qs.map (·.2)).map mD).map .fz)])):=dD (aU (b:=true) (by walk_at "ev")) (bj (dg (x:= .fz (mD a)) (aj (ar rfl)) dv (kg rfl (eh ij) nin)))
    cases a with
    |letter c=>
     cases qh:gl (eX ac k none) (.letter c) with
     |true=>
      rw[qh] at cnd
      refine dL cnd (dr (nil (K:=[.lst (((qs.map (·.2)).map mD).map .fz)]) perm ?_))
      rw[dm]
      show(if gl (eX ac k none) (.letter c)=true then[] else _)=[]
      rw[qh,if_pos rfl]
     |false=>
      rw[qh] at cnd
      have i1:bH (mD (.letter c)) (.int 1)=some (.fz (.str (jN c))):=hX
      refine iY cnd (Bg (dU (ds:=[(c,false)].map fq) (show _=Res.ok (PV.ow [.tuple [.str (jN c),.str "up"]],_) by walk_at "ev")) ⟨qs,[.lst (((qs.map (·.2)).map mD).map .fz)],perm,rfl,?_⟩)
      rw[dm]
      show _=LW qs js (_++[.lst (((if gl (eX ac k none) (.letter c)=true then[] else[(c,false)]).map fq).map .fz)])
      rw[qh,if_neg Bool.false_ne_true]
      rfl
    |_=>cases qm
 |turn=>
  refine cG (x:= .fz (cV .turn)) (ρ1:=[some (.fz (bD b)),some (.rf 1),some (.fz (cV .turn)),some (.fz (.str "turn")),some (.fz (.int 0)),none,none]) (aj (ar rfl)) rfl ?_
  refine dL (ω1:=LW ps js J) (c9 (aU (b:=false) (by walk_at "ev"))) ?_
  refine dL (ω1:=LW ps js J) (c9 (aU (b:=false) (by walk_at "ev"))) (dr ?_)
  have:=nil (ρ:=[some (.fz (bD b)),some (.rf 1),some (.fz (cV .turn)),some (.fz (.str "turn")),some (.fz (.int 0)),none,none]) (ps':=ps) (K:=[]) (N:=fun _ ω'=>DueT b ac .turn js J (.fz .none) ω') (C:=fun _ _=>False) hp rfl
  rw[List.append_nil] at this
  exact this
end
section
variable {ρ:cg} {ω ω1 ω2:bz} {x:SV}
theorem ot {F:gX} {n:Nat} {fa:kl} {xs:List SV} (ha:fa ρ ω= .ok xs ω1) (hF:mw F n xs ω1= .ok x ω2):mf F n fa ρ ω= .ok x ω2:=by
 unfold mf
 rw[ha,RS.bind_ok,hF]
 rfl
theorem AB (sn:List D) (st:D):frz 4 (ω++[.lst (sn.map .fz)]) (.tp [.rf ω.length,.fz st])=some (.tuple [.list sn,st],ω++[.dead]):=by
 have e1:frz 3 (ω++[.lst (sn.map .fz)]) (.rf ω.length)=some (.list sn,ω++[.dead]):=by
  unfold frz
  rw[bK]
  dsimp only
  rw[rT]
  dsimp only
  rw[hW]
 have e2:mL (frz 3) (ω++[.lst (sn.map .fz)]) [.rf ω.length,.fz st]=some ([.list sn,st],ω++[.dead]):=by
  unfold mL
  rw[e1]
  rfl
 unfold frz
 rw[show([AV.rf ω.length,AV.fz st].map AV.sv)=[.rf ω.length,.fz st] from rfl,e2]
theorem xE {b:Bd} (vb:VB b) {s:Stn} (sw:SW b s) {e:Evn} (he:EV b e) {fa fb fc:cB} (h1:fa ρ ω= .ok (.fz (bD b)) ω) (h2:fb ρ ω= .ok (.fz (cU s)) ω) (h3:fc ρ ω= .ok (.fz (cV e)) ω):tJ (mf STP.gS 3 (aB fa (aB fb (aB fc a8)))) ρ ω= .ok (.fz (.tuple [.list ((cW b s e).2.map fq),cU (cW b s e).1])) (ω++[.dead]):=
 si (ot (aD h1 (aD h2 (aD h3 aZ))) (G1 vb sw he)) (AB _ _)
end
theorem Cf {b:Bd} (vb:VB b) (es:List Evn) (hl:es.length≤1000) (he:∀e∈es,EV b e):∃ω',jf [.fz (bD b),.fz (.list (es.map cV))] []= .ok (.tp [.rf 0,.fz (cU (cw b cJ es).1)]) ω'∧sh ω' (.rf 0)=some (.list (fT (cw b cJ es).2)):=by
 refine gx (v:= .tp [.rf 0,.fz (cU (cw b cJ es).1)]) (W:=fun ω'=>sh ω' (.rf 0)=some (.list (fT (cw b cJ es).2))) (ρ:=[some (.fz (bD b)),some (.fz (.list (es.map cV))),none,none,none,none]) rfl ?_
 unfold wa
 refine cG (x:= .fz (cU cJ)) (ρ1:=[some (.fz (bD b)),some (.fz (.list (es.map cV))),some (.fz (cU cJ)),none,none,none]) (aj (d:=cU cJ) (show _=Res.ok (PV.fz (.tuple [.tuple [],.none,.none]),_) from bC)) rfl ?_
 refine cG (x:= .rf 0) (ω1:=[.lst []]) (ρ1:=[some (.fz (bD b)),some (.fz (.list (es.map cV))),some (.fz (cU cJ)),some (.rf 0),none,none]) (dU (ds:=[]) (by walk_at "ev")) rfl ?_
 refine iX (BD (fun i ρ ω=>∃(o4 o5:Option SV) (J:bz),ρ=[some (.fz (bD b)),some (.fz (.list (es.map cV))),some (.fz (cU (cw b cJ (es.take i)).1)),some (.rf 0),o4,o5]∧ω= .lst ((fT (cw b cJ (es.take i)).2).map .fz)::J) (ds:=es.map cV) (ω1:=[.lst []]) (oM (kM (ar rfl) rfl rfl)) ⟨_,_,[],rfl,rfl⟩ ?_ ?_)
 ·rintro i d ρ ω hi ⟨o4,o5,J,rfl,rfl⟩
  rw[List.getElem?_map] at hi
  cases q:es[i]? with
  |none=>rw[q] at hi;cases hi
  |some e=>
   rw[q] at hi
   cases Option.some.inj hi
   refine⟨_,_,rfl,?_⟩
   have hev:=he e (List.mem_of_getElem? q)
   have sw:SW b (cw b cJ (es.take i)).1:=lf vb _ (kR b) fun e h=>he e (List.mem_of_mem_take h)
   obtain⟨n1,n2⟩:=nA b es cJ i e q
   have il:i<es.length:=(List.getElem?_eq_some_iff.mp q).1
   have tk:(cw b cJ (es.take (i+1))).2=(cw b cJ (es.take i)).2++[(cW b (cw b cJ (es.take i)).1 e).2]:=by
    rw[List.take_add_one,q,oP]
    rfl
   have ll:(cw b cJ (es.take i)).2.length≤1000:=by rw[jc,List.length_take];omega
   rw[n1,tk]
   have sf:=xE (ρ:=[some (.fz (bD b)),some (.fz (.list (es.map cV))),some (.fz (cU (cw b cJ (es.take i)).1)),some (.rf 0),some (.fz (cV e)),o5]) (ω:= .lst ((fT (cw b cJ (es.take i)).2).map .fz)::J) vb sw hev (fa:=ai (ah 0)) (fb:=ai (ah 2)) (fc:=ai (ah 4)) (aj (ar rfl)) (aj (ar rfl)) (aj (ar rfl))
   generalize cW b (cw b cJ (es.take i)).1 e=p at sf
   refine cG (x:= .fz (.tuple [.list (p.2.map fq),cU p.1])) (ω1:=Cell.lst ((fT (cw b cJ (es.take i)).2).map .fz)::(J++[Cell.dead])) (ρ1:=[some (.fz (bD b)),some (.fz (.list (es.map cV))),some (.fz (cU (cw b cJ (es.take i)).1)),some (.rf 0),some (.fz (cV e)),some (.fz (.tuple [.list (p.2.map fq),cU p.1]))]) sf rfl ?_
   have i0:bH (.tuple [.list (p.2.map fq),cU p.1]) (.int 0)=some (.fz (.list (p.2.map fq))):=iK
   have i1:bH (.tuple [.list (p.2.map fq),cU p.1]) (.int 1)=some (.fz (cU p.1)):=hX
   refine gI (ω1:=Cell.lst ((fT ((cw b cJ (es.take i)).2++[p.2])).map .fz)::(J++[Cell.dead])) ((rS (i:=0) (xs:=(fT (cw b cJ (es.take i)).2).map .fz) (ys:=(fT (cw b cJ (es.take i)).2).map .fz) (x:= .fz (.list (p.2.map fq))) (bR rfl) rfl (aj (bQ (rv:= .fz (.list (p.2.map fq))) (ar rfl) bC rfl rfl i0)) rfl (by rw[List.length_map,wf];omega)).trans (by unfold fT;rw[List.map_append,List.map_append];rfl)) ?_
   exact Ar (x:= .fz (cU p.1)) (ρ1:=[some (.fz (bD b)),some (.fz (.list (es.map cV))),some (.fz (cU p.1)),some (.rf 0),some (.fz (cV e)),some (.fz (.tuple [.list (p.2.map fq),cU p.1]))]) (aj (bQ (rv:= .fz (cU p.1)) (ar rfl) bC rfl rfl i1)) rfl ⟨_,_,_,rfl,rfl⟩
 ·rintro ρ ω ⟨o4,o5,J,rfl,rfl⟩
  rw[List.length_map,List.take_length]
  exact nX (z9 (xs:=[.rf 0,.fz (cU (cw b cJ es).1)]) (aD (bR rfl) (aD (aj (ar rfl)) aZ)) (Nat.le_of_ble_eq_true rfl) rfl rfl) ⟨rfl,eh (ds:=fT (cw b cJ es).2) rfl⟩
theorem G9 {b:Bd} (vb:VB b) {ω:bz} (es:List Evn) (hl:es.length≤1000) (he:∀e∈es,EV b e):mw jf 2 [.fz (bD b),.fz (.list (es.map cV))] ω= .ok (.tp [.rf ω.length,.fz (cU (cw b cJ es).1)]) (ω++[.lst ((fT (cw b cJ es).2).map .fz)]):=by
 obtain⟨ω',h1,h2⟩:=Cf vb es hl he
 unfold mw
 rw[if_pos (show([.fz (bD b),.fz (.list (es.map cV))]:List SV).length=2 from rfl),show aL qS [.fz (bD b),.fz (.list (es.map cV))]=some [bD b,.list (es.map cV)] from rfl]
 dsimp only
 rw[show[bD b,PyData.list (es.map cV)].map SV.fz=[.fz (bD b),.fz (.list (es.map cV))] from rfl,h1]
 show(match vR ω' ω.length [.rf 0,.fz (cU (cw b cJ es).1)] with
  |some (l',cs,js)=>if js.Nodup then RS.ok (SV.tp l') (ω++cs.map GY) else .bad
  |none=> .bad)=_
 have hg:vR ω' ω.length [.rf 0,.fz (cU (cw b cJ es).1)]=some ([.rf ω.length,.fz (cU (cw b cJ es).1)],[fT (cw b cJ es).2],[0]):=by
  unfold vR
  rw[h2]
  rfl
 rw[hg]
 dsimp only
 rw[if_pos (by decide)]
 rfl
structure SR (J:bz) (js:List Nat) (dl:List Sn):Prop where
 len:js.length=dl.length
 at':∀(i j:Nat) (sn:Sn),js[i]? =some j→dl[i]? =some sn→∃t,j=t+3∧J[t]? =some (.lst ((sn.map fq).map .fz))
theorem SR.app {J K:bz} {js:List Nat} {dl:List Sn} (h:SR J js dl):SR (J++K) js dl:=
 ⟨h.len,fun i j sn h1 h2=>by
  obtain⟨t,e,ht⟩:=h.at' i j sn h1 h2
  exact⟨t,e,xU ht⟩⟩
theorem SR.snoc {J:bz} {js:List Nat} {dl:List Sn} {t:Nat} {sn:Sn} (h:SR J js dl) (ht:J[t]? =some (.lst ((sn.map fq).map .fz))):SR J (js++[t+3]) (dl++[sn]):=
 ⟨by rw[List.length_append,List.length_append,h.len];rfl,fun i j s h1 h2=>by
  rcases cc h1 with h1|⟨e1,rfl⟩
  ·rcases cc h2 with h2|⟨e2,rfl⟩
   ·exact h.at' i j s h1 h2
   ·have:=(List.getElem?_eq_some_iff.mp h1).1
    rw[h.len] at this
    omega
  ·rcases cc h2 with h2|⟨e2,rfl⟩
   ·have:=(List.getElem?_eq_some_iff.mp h2).1
    rw[←h.len] at this
    omega
   ·exact⟨t,rfl,ht⟩⟩
theorem lR {α β:Type} {f:α→Option β}:∀{xs:List α} {ys:List β},xs.length=ys.length→(∀(i:Nat) (x:α) (y:β),xs[i]? =some x→ys[i]? =some y→f x=some y)→aL f xs=some ys
 |[],[],_,_=>rfl
 |[],_::_,h,_=>by simp at h
 |_::_,[],h,_=>by simp at h
 |x::r,y::t,h,hs=>by
  unfold aL
  rw[hs 0 x y rfl rfl,lR (by simpa using h) fun i x y h1 h2=>hs (i+1) x y (by simpa using h1) (by simpa using h2)]
theorem v9 (n:Nat) {ω:bz} {i:Nat} {ds:List D} (h:ω[i]? =some (.lst (ds.map .fz))):kF (n+1) ω (.rf i)=some (.list ds):=by
 unfold kF
 rw[h]
 dsimp only
 rw[lR (ys:=ds) (by rw[List.length_map])]
 ·rfl
 ·intro i x y h1 h2
  rw[List.getElem?_map,h2] at h1
  cases Option.some.inj h1
  cases n<;>rfl
theorem wZ (n:Nat) {ps:List (Nat×Mn)} {js:List Nat} {J:bz} {dl:List Sn} (h:SR J js dl):kF (n+2) (LW ps js J) (.rf 2)=some (.list (fT dl)):=by
 unfold kF
 rw[show(LW ps js J)[2]? =some (.lst (js.map SV.rf)) from rfl]
 dsimp only
 rw[lR (ys:=fT dl) (by rw[List.length_map,wf,h.len])]
 ·rfl
 ·intro i x y h1 h2
  rw[List.getElem?_map] at h1
  unfold fT at h2
  rw[List.getElem?_map] at h2
  cases q1:js[i]? with
  |none=>rw[q1] at h1;cases h1
  |some j=>
   cases q2:dl[i]? with
   |none=>rw[q2] at h2;cases h2
   |some sn=>
    rw[q1] at h1
    rw[q2] at h2
    cases Option.some.inj h1
    cases Option.some.inj h2
    obtain⟨t,rfl,ht⟩:=h.at' i j sn q1 q2
    exact v9 n (show(LW ps js J)[t+1+1+1]? =_ from by
     unfold LW
     rw[List.getElem?_cons_succ,List.getElem?_cons_succ,List.getElem?_cons_succ]
     exact ht)
theorem EB {dl:List Sn} (h:∀sn∈dl,SnOk sn):iL (.list (fT dl))=true:=by
 refine yb (nu fun sn hs=>ki (zH (h sn hs))) ?_
 show PyData.depthAll (fT dl)+1≤64
 have:PyData.depthAll (fT dl)≤2:=gF (f:=fun sn:Sn=> .list (sn.map fq)) (l:=dl) fun sn _=>by
  show PyData.depthAll (sn.map fq)+1≤2
  have:=gF (f:=fq) (l:=sn) fun q _=>rq q
  omega
 omega
noncomputable abbrev EL (ns:List Int) (b:Bd) (es:List Evn) (s:Stn) (o6 o7 o8 o9 o10:Option SV):cg:=[some (.fz (.list (ns.map .int))),some (.fz (bD b)),some (.fz (.list (es.map cV))),some (.fz (cU s)),some (.rf 1),some (.rf 2),o6,o7,o8,o9,o10]
theorem Bm {b:Bd} {ac:Ac} {ps:List (Nat×Mn)} {js:List Nat} {J:bz} {ρ:cg} (hp:ps.Perm (dJ ac)) (h4:ρ[4]? =some (some (.rf 1))) (hρ:fS 1 [4] ρ=[none,some (.rf 1)]):gO (aB (Dm mI (aB (j8 1 [4] (g8 (jZ (aF 4))) (fM 0) jj (gO (aB (ai (ah 0)) (aB (jX (aF 1) (ai (ah 0))) a8)))) a8)) (aB (ai (pC .none)) (aB (ai (pC .none)) a8))) ρ (LW ps js J)= .ok (.fz (cU ⟨ac,none,none⟩)) (LW ps js (J++[.dead]++[.lst (((dJ ac).map pD).map .fz)])):=by
 have hl5:=oz hp
 have fi:g8 (jZ (aF 4)) ρ (LW ps js J)= .ok ((dJ ac).map fun q=>nd q.1) (LW ps js (J++[.dead])):=by
  refine(vB (ds:=(dJ ac).map fun q=>nd q.1) (xq (bR h4) rfl (uU hp) (by rw[List.length_map];omega)) ?_).trans ?_
  ·rw[uV hp]
   refine bK.trans ?_
   rw[List.map_map,List.map_map]
   rfl
  ·rw[hW];rfl
 have cv:bS (fM 0) jj (gO (aB (ai (ah 0)) (aB (jX (aF 1) (ai (ah 0))) a8))) ((dJ ac).map fun q=>nd q.1) (fS 1 [4] ρ) (LW ps js (J++[.dead])) []= .ok (((dJ ac).map pD).map .fz) (LW ps js (J++[.dead])):=by
  rw[hρ]
  refine(jA (fun q:Nat×Mn=>nd q.1) (fun q=> .fz (pD q)) _ (fun ρ=>∃o,ρ=[o,some (.rf 1)]) (dJ ac) _ [] ⟨none,rfl⟩ (by have:=nz ac;rw[List.length_nil];omega) ?_).trans (by rw[List.map_map];rfl)
  rintro q hq ρ ⟨o,rfl⟩
  have hm:=iu.mp hq
  refine⟨[some (.fz (nd q.1)),some (.rf 1)],rfl,rfl,?_,_,rfl⟩
  exact l6 (ds:=[nd q.1,mD q.2]) (aD (aj (ar rfl)) (aD (xz (i:=1) (kvs:=ps.map fU) (bR rfl) (aj (d:=nd q.1) (ar rfl)) rfl rfl (by rw[gK hp hm.1,hm.2];rfl)) aZ)) (Nat.le_of_ble_eq_true rfl)
 have tp:Dm mI (aB (j8 1 [4] (g8 (jZ (aF 4))) (fM 0) jj (gO (aB (ai (ah 0)) (aB (jX (aF 1) (ai (ah 0))) a8)))) a8) ρ (LW ps js J)= .ok (.fz (.tuple ((dJ ac).map pD))) (LW ps js (J++[.dead]++[.lst (((dJ ac).map pD).map .fz)])):=
  BE (ds:=[.list ((dJ ac).map pD)]) (aD (rY fi cv) aZ) (kh (eh (ω:=LW ps js (J++[.dead])++[.lst (((dJ ac).map pD).map .fz)]) (ds:=(dJ ac).map pD) bK)) rfl
 exact l6 (ds:=[.tuple ((dJ ac).map pD),.none,.none]) (aD tp (aD (aj bC) (aD (aj bC) aZ))) (Nat.le_of_ble_eq_true rfl)
theorem GL {b:Bd} (B:B31 b):∀(es:List Evn),(∀e∈es,EV b e)→∃ac:Ac,(cw b cJ es).1=⟨ac,none,none⟩:=fun es he=>by
 have key:∀(es:List Evn) (s:Stn),SW b s→s.wt=none→s.oc=none→(∀e∈es,EV b e)→(cw b s es).1.wt=none∧(cw b s es).1.oc=none:=by
  intro es
  induction es with
  |nil=>intro s _ h1 h2 _;exact⟨h1,h2⟩
  |cons e r ih=>
   intro s sw h1 h2 he
   obtain⟨ac,w,o⟩:=s
   cases h1
   cases h2
   have d:=uZ B (ac:=ac) sw.sa (he e List.mem_cons_self)
   show(cw b (cW b ⟨ac,none,none⟩ e).1 r).1.wt=none∧_
   have sw':=rO B.vb sw (he e List.mem_cons_self)
   refine ih _ sw' (by rw[d]) (by rw[d]) fun x hx=>he x (List.mem_cons_of_mem _ hx)
 have h:=key es cJ (kR b) rfl rfl he
 cases q:(cw b cJ es).1 with
 |mk ac w o=>
  rw[q] at h
  obtain⟨h1,h2⟩:=h
  cases h1
  cases h2
  exact⟨ac,rfl⟩
theorem Bc {ps:List (Nat×Mn)} {js:List Nat} {J:bz} {dl:List Sn} {l:Nat} (h:SR J js dl) (hl:(LW ps js J)[l]? =some (.lst ((fT dl).map .fz))) (ok:iL (.list (fT dl))=true):kA mG (.rf l) (.rf 2) (LW ps js J)= .ok (.fz (.bool false)) (LW ps js J):=by
 cases js with
 |nil=>
  have hd:dl=[]:=by
   have:=h.len
   cases dl with
   |nil=>rfl
   |cons _ _=>simp at this
  subst hd
  exact kg (eh (ds:=[]) hl) (eh (ds:=[]) rfl) (k8 ok)
 |cons j r=>exact Ak (.inr rfl) (v9 5 hl) (wZ 4 h) (k8 ok) rfl
theorem FB (dl:List Sn):PyData.depthAll (fT dl)≤2:=gF (f:=fun sn:Sn=> .list (sn.map fq)) (l:=dl) fun sn _=>by
 show PyData.depthAll (sn.map fq)+1≤2
 have:=gF (f:=fq) (l:=sn) fun q _=>rq q
 omega
theorem Ez (ac:Ac):PyData.depth (cU ⟨ac,none,none⟩)≤4:=by
 have d0:∀m:Mn,PyData.depth (mD m)≤1:=fun m=>by cases m<;>exact Nat.le_of_ble_eq_true rfl
 have d1:PyData.depthAll ((dJ ac).map pD)≤2:=gF fun q _=>by
  show max 0 (max (PyData.depth (mD q.2)) 0)+1≤2
  have:=d0 q.2
  omega
 show max (PyData.depthAll ((dJ ac).map pD)+1) (max 0 (max 0 0))+1≤4
 omega
theorem main (ns:List Int) (hns:ns.length≤63):L10.Hb F_law [.list (ns.map .int)]= .ok (.fz (.bool true)):=by
 obtain⟨b,B,eb⟩:=EU ns
 obtain⟨es,hes,he,ee⟩:=yu B ns hns
 have vb:=B.vb
 have key:∃x ω',F_law [.fz (.list (ns.map .int))] []= .ok x ω'∧x= .fz (.bool true):=by
  refine wD (T:=fun x _=>x= .fz (.bool true)) (ρ:=[some (.fz (.list (ns.map .int))),none,none,none,none,none,none,none,none,none,none]) rfl ?_
  unfold AE
  refine cG (x:= .fz (bD b)) (ρ1:=[some (.fz (.list (ns.map .int))),some (.fz (bD b)),none,none,none,none,none,none,none,none,none]) (aj (d:=bD b) (kq (rv:= .fz (bD b)) (ds:=[.list (ns.map .int)]) (bp (ar rfl) cP) rfl rfl eb)) rfl ?_
  have i0:bH (bD b) (.int 0)=some (.fz (.int b.n)):=iK
  refine cG (x:= .fz (.list (es.map cV))) (ω1:=[Cell.dead]) (ρ1:=[some (.fz (.list (ns.map .int))),some (.fz (bD b)),some (.fz (.list (es.map cV))),none,none,none,none,none,none,none,none]) (si (x:= .rf 0) (ω1:=[.lst ((es.map cV).map .fz)]) (dU (ds:=es.map cV) (kq (rv:= .ow (es.map cV)) (ds:=[.list (ns.map .int),.int 16,.int b.n]) (bp (ar rfl) (bp bC (bp (bQ (rv:= .fz (.int b.n)) (ar rfl) bC rfl rfl i0) cP))) rfl rfl ee)) (mW (i:=0) (ds:=es.map cV) rfl)) rfl ?_
  refine cG (x:= .fz (cU cJ)) (ρ1:=[some (.fz (.list (ns.map .int))),some (.fz (bD b)),some (.fz (.list (es.map cV))),some (.fz (cU cJ)),none,none,none,none,none,none,none]) (aj (d:=cU cJ) (show _=Res.ok (PV.fz (.tuple [.tuple [],.none,.none]),_) by walk_at "ev")) rfl ?_
  refine cG (x:= .rf 1) (ω1:=[Cell.dead,Cell.dct []]) (ρ1:=[some (.fz (.list (ns.map .int))),some (.fz (bD b)),some (.fz (.list (es.map cV))),some (.fz (cU cJ)),some (.rf 1),none,none,none,none,none,none]) rfl rfl ?_
  refine cG (x:= .rf 2) (ω1:=LW [] [] []) (ρ1:=EL ns b es cJ none none none none none) (dU (ds:=[]) (by walk_at "ev")) rfl ?_
  refine iX (BD (fun i ρ ω=>∃(ac:Ac) (ps:List (Nat×Mn)) (js:List Nat) (J:bz) (o6 o7 o8:Option SV),(cw b cJ (es.take i)).1=⟨ac,none,none⟩∧ps.Perm (dJ ac)∧SR J js (cw b cJ (es.take i)).2∧ρ=EL ns b es ⟨ac,none,none⟩ o6 o7 o8 none none∧ω=LW ps js J) (ds:=es.map cV) (ω1:=LW [] [] []) (oM (kM (ar rfl) rfl rfl)) ⟨cJ.ac,[],[],[],none,none,none,rfl,List.Perm.nil,⟨rfl,fun i j sn h=>by cases h⟩,rfl,rfl⟩ ?_ ?_)
  ·rintro i d ρ ω hi ⟨ac,ps,js,J,o6,o7,o8,hac,hp,hsr,rfl,rfl⟩
   rw[List.getElem?_map] at hi
   cases q:es[i]? with
   |none=>rw[q] at hi;cases hi
   |some e=>
    rw[q] at hi
    cases Option.some.inj hi
    refine⟨_,_,rfl,?_⟩
    have hev:=he e (List.mem_of_getElem? q)
    have sw0:SW b (cw b cJ (es.take i)).1:=lf vb _ (kR b) fun e h=>he e (List.mem_of_mem_take h)
    obtain⟨n1,n2⟩:=nA b es cJ i e q
    have tk:(cw b cJ (es.take (i+1))).2=(cw b cJ (es.take i)).2++[(cW b (cw b cJ (es.take i)).1 e).2]:=by
     rw[List.take_add_one,q,oP]
     rfl
    rw[n1,tk]
    rw[hac] at sw0⊢
    have ds:=uZ B sw0.sa hev
    have sw1:=rO vb sw0 hev
    have sn1:=xS vb sw0 hev
    obtain⟨r,ω',ed,⟨ps',K,hp',rfl,rfl⟩⟩:=Fb (js:=js) (J:=J) B hev sw0.sa hp
    have sf:=fun(ρ:cg) (ω:bz) (h1:ai (ah 1) ρ ω= .ok (.fz (bD b)) ω) (h2:ai (ah 3) ρ ω= .ok (.fz (cU ⟨ac,none,none⟩)) ω) (h3:ai (ah 6) ρ ω= .ok (.fz (cV e)) ω)=>xE (ρ:=ρ) (ω:=ω) vb sw0 hev (fa:=ai (ah 1)) (fb:=ai (ah 3)) (fc:=ai (ah 6)) h1 h2 h3
    rw[ds] at sw1 sn1 sf⊢
    dsimp only at sw1 sn1 sf⊢
    generalize (lX b ac e).1=ac' at hp' sw1 sf
    generalize (lX b ac e).2=sn at ed sn1 sf
    refine cG (x:= .rf (LW ps' js (J++K)).length) (ω1:=LW ps' js (J++K++[.lst ((sn.map fq).map .fz)])) (ρ1:=EL ns b es ⟨ac,none,none⟩ (some (.fz (cV e))) (some (.rf (LW ps' js (J++K)).length)) o8 none none) (pA (xs:=[.fz (bD b),.rf 1,.fz (cV e)]) (aD (aj (ar rfl)) (aD (bR rfl) (aD (aj (ar rfl)) aZ))) rfl ed) rfl ?_
    refine cG (x:= .fz (.tuple [.list (sn.map fq),cU ⟨ac',none,none⟩])) (ω1:=LW ps' js (J++K++[.lst ((sn.map fq).map .fz)]++[Cell.dead])) (ρ1:=EL ns b es ⟨ac,none,none⟩ (some (.fz (cV e))) (some (.rf (LW ps' js (J++K)).length)) (some (.fz (.tuple [.list (sn.map fq),cU ⟨ac',none,none⟩]))) none none) (sf _ _ (aj (ar rfl)) (aj (ar rfl)) (aj (ar rfl))) rfl ?_
    have j0:bH (.tuple [.list (sn.map fq),cU ⟨ac',none,none⟩]) (.int 0)=some (.fz (.list (sn.map fq))):=iK
    have j1:bH (.tuple [.list (sn.map fq),cU ⟨ac',none,none⟩]) (.int 1)=some (.fz (cU ⟨ac',none,none⟩)):=hX
    have nn:=k8 (zH sn1)
    have len2:h7 [.tuple [.list (sn.map fq),cU ⟨ac',none,none⟩]]=some (.fz (.int 2)):=rfl
    have ne2:mG (.int 2) (.int 2)=some (.fz (.bool false)):=kI 2 2
    have hd:(LW ps' js (J++K++[.lst ((sn.map fq).map .fz)]++[Cell.dead]))[(LW ps' js (J++K)).length]? =some (.lst ((sn.map fq).map .fz)):=by rw[List.append_assoc (J++K)];exact yd
    refine dL (ω1:=LW ps' js (J++K++[.lst ((sn.map fq).map .fz)]++[Cell.dead])) (fP (aU (b:=false) (sZ (a:=true) (eC (vp (ar rfl) rfl rfl) rfl))) (fP (aU (b:=false) (eC (bQ (rv:= .fz (.bool false)) (iH (rv:= .fz (.int 2)) (bp (ar rfl) cP) rfl len2) bC rfl rfl ne2) rfl)) (fP (aU (b:=false) (sZ (a:=true) (eC (vp (bQ (rv:= .fz (.list (sn.map fq))) (ar rfl) bC rfl rfl j0) rfl rfl) rfl))) (bj (dg (x:= .fz (.list (sn.map fq))) (aj (bQ (rv:= .fz (.list (sn.map fq))) (ar rfl) bC rfl rfl j0)) (bR rfl) (kg rfl (eh hd) nn)))))) (dr ?_)
    refine cG (x:= .fz (cU ⟨ac',none,none⟩)) (ρ1:=EL ns b es ⟨ac',none,none⟩ (some (.fz (cV e))) (some (.rf (LW ps' js (J++K)).length)) (some (.fz (.tuple [.list (sn.map fq),cU ⟨ac',none,none⟩]))) none none) (aj (bQ (rv:= .fz (cU ⟨ac',none,none⟩)) (ar rfl) bC rfl rfl j1)) rfl ?_
    have st:=Bm (b:=b) (js:=js) (J:=J++K++[.lst ((sn.map fq).map .fz)]++[Cell.dead]) (ρ:=EL ns b es ⟨ac',none,none⟩ (some (.fz (cV e))) (some (.rf (LW ps' js (J++K)).length)) (some (.fz (.tuple [.list (sn.map fq),cU ⟨ac',none,none⟩]))) none none) hp' rfl rfl
    refine dL (bj (dg (x:= .fz (cU ⟨ac',none,none⟩)) (aj (ar rfl)) st (dj (k8 (vS sw1))))) (dr ?_)
    generalize hJ1:J++K++[Cell.lst ((sn.map fq).map .fz)]++[Cell.dead]++[Cell.dead]++[Cell.lst (((dJ ac').map pD).map .fz)]=J1
    obtain⟨K2,el⟩:=A0 (js:=js) (J:=J1) vb sw1.sa hp'
    have lo:=nJ ⟨ac',none,none⟩
    have nl:mG (.int (j6 ac' none)) (.int (c7 ac'))=some (.fz (.bool false)):=(kI _ _).trans (by rw[show j6 ac' none=c7 ac' from rfl,decide_eq_true rfl];rfl)
    refine dL (ω1:=LW ps' js (J1++K2)) (bj (dg (x:= .fz (.int (j6 ac' none))) (aj (kq (rv:= .fz (.int (j6 ac' none))) (ds:=[cU ⟨ac',none,none⟩]) (bp (ar rfl) cP) rfl rfl lo)) (pA (xs:=[.rf 1]) (aD (bR rfl) aZ) rfl el) (dj nl))) (dr ?_)
    have lj:js.length≤1000:=by rw[hsr.len,jc,List.length_take];omega
    have hjl:(LW ps' js (J++K)).length=(J++K).length+3:=rfl
    refine gk ((rS (i:=2) (xs:=js.map SV.rf) (ys:=js.map SV.rf) (x:= .rf ((J++K).length+3)) (bR rfl) rfl (bR rfl) rfl (by rw[List.length_map];omega)).trans rfl) ⟨ac',ps',js++[(J++K).length+3],J1++K2,_,_,_,rfl,hp',?_,rfl,by unfold LW;rw[List.map_append];rfl⟩
    have hJ:J1=J++(K++[Cell.lst ((sn.map fq).map .fz)]++[Cell.dead]++[Cell.dead]++[Cell.lst (((dJ ac').map pD).map .fz)]):=by rw[←hJ1];simp only[List.append_assoc]
    refine SR.snoc (by rw[hJ,List.append_assoc];exact hsr.app) ?_
    rw[←hJ1]
    simp only[List.append_assoc]
    rw[←List.append_assoc J K,List.getElem?_append_right (Nat.le_refl _),Nat.sub_self]
    rfl
  ·rintro ρ ω ⟨ac,ps,js,J,o6,o7,o8,hac,hp,hsr,rfl,rfl⟩
   rw[List.length_map,List.take_length] at hac hsr
   have sw:SW b (cw b cJ es).1:=lf vb _ (kR b) he
   have pc:=fun ω:bz=>G9 vb (ω:=ω) es (by omega) he
   have snk:∀sn∈(cw b cJ es).2,SnOk sn:=fun sn hs=>by
    obtain⟨i,hi⟩:=List.mem_iff_getElem?.mp hs
    have il:i<es.length:=by
     have:=(List.getElem?_eq_some_iff.mp hi).1
     rwa [jc] at this
    obtain⟨_,n2⟩:=nA b es cJ i _ (List.getElem?_eq_getElem il)
    rw[hi] at n2
    rw[Option.some.inj n2]
    exact xS vb (lf vb _ (kR b) fun e h=>he e (List.mem_of_mem_take h)) (he _ (List.getElem_mem il))
   have okl:=EB snk
   have ll:(cw b cJ es).2.length≤1000:=by rw[jc];omega
   rw[hac] at pc sw
   generalize (cw b cJ es).2=dl at hsr pc snk okl ll
   have p1:=pc (LW ps js J)
   refine cG (x:= .tp [.rf (LW ps js J).length,.fz (cU ⟨ac,none,none⟩)]) (ω1:=LW ps js (J++[Cell.lst ((fT dl).map .fz)])) (ρ1:=EL ns b es ⟨ac,none,none⟩ o6 o7 o8 (some (.rf (LW ps js J).length)) (some (.fz (cU ⟨ac,none,none⟩)))) (ot (xs:=[.fz (bD b),.fz (.list (es.map cV))]) (aD (aj (ar rfl)) (aD (aj (ar rfl)) aZ)) p1) rfl ?_
   have nst:=k8 (vS sw)
   refine dL (ω1:=LW ps js (J++[Cell.lst ((fT dl).map .fz)])) (fP (bj (dg (bR rfl) (bR rfl) (Bc hsr.app ij okl))) (aU (b:=false) (eC (bQ (rv:= .fz (.bool false)) (ar rfl) (ar rfl) rfl rfl nst) rfl))) (dr ?_)
   have l2:(LW ps js (J++[Cell.lst ((fT dl).map .fz)]++[Cell.lst ([PyData.none].map .fz)]))[(LW ps js J).length]? =some (.lst ((fT dl).map .fz)):=by rw[List.append_assoc];exact yd
   obtain⟨J2,hJ2,hsr2⟩:∃J2,(LW ps js (J++[Cell.lst ((fT dl).map .fz)]++[Cell.lst ([PyData.none].map .fz)])).set (LW ps js J).length (Cell.lst ((fT dl).map .fz++[.rf (LW ps js (J++[Cell.lst ((fT dl).map .fz)])).length]))=LW ps js J2∧SR J2 js dl:=by
    refine⟨J++[Cell.lst ((fT dl).map .fz++[.rf (LW ps js (J++[Cell.lst ((fT dl).map .fz)])).length])]++[Cell.lst ([PyData.none].map .fz)],?_,by rw[List.append_assoc];exact hsr.app⟩
    show Cell.dead:: .dct (ps.map fU):: .lst (js.map SV.rf)::(J++[Cell.lst ((fT dl).map .fz)]++[Cell.lst ([PyData.none].map .fz)]).set J.length _=_
    rw[List.append_assoc,List.set_append_right _ _ (Nat.le_refl _),Nat.sub_self,List.append_assoc]
    rfl
   refine gI (x:= .fz .none) (ω1:=LW ps js J2) ((rS (i:=(LW ps js J).length) (xs:=(fT dl).map .fz) (ys:=(fT dl).map .fz) (x:= .rf (LW ps js (J++[Cell.lst ((fT dl).map .fz)])).length) (bR rfl) ij (dU (ds:=[.none]) (by walk_at "ev")) l2 (by rw[List.length_map,wf];omega)).trans (by rw[←hJ2];rfl)) ?_
   have p2:=pc (LW ps js J2)
   have oke:iL (.tuple [.list (fT dl),cU ⟨ac,none,none⟩])=true:=by
    refine yb ?_ ?_
    ·show(PyData.canLay0 (.list (fT dl))&&(PyData.canLay0 (cU ⟨ac,none,none⟩)&&true))=true
     rw[ki okl,ki (vS sw)]
     rfl
    ·show max (PyData.depthAll (fT dl)+1) (max (PyData.depth (cU ⟨ac,none,none⟩)) 0)+1≤64
     have:=FB dl
     have:=Ez ac
     omega
   refine nX (dg (x:= .tp [.rf (LW ps js J2).length,.fz (cU ⟨ac,none,none⟩)]) (y:= .tp [.rf 2,.fz (cU ⟨ac,none,none⟩)]) (ot (xs:=[.fz (bD b),.fz (.list (es.map cV))]) (aD (aj (ar rfl)) (aD (aj (ar rfl)) aZ)) p2) (z9 (xs:=[.rf 2,.fz (cU ⟨ac,none,none⟩)]) (aD (bR rfl) (aD (aj (ar rfl)) aZ)) (Nat.le_of_ble_eq_true rfl) rfl rfl) (Ak (dx:= .tuple [.list (fT dl),cU ⟨ac,none,none⟩]) (dy:= .tuple [.list (fT dl),cU ⟨ac,none,none⟩]) (.inl rfl) ?_ ?_ (C0 oke) rfl)) rfl
   ·have h1:kF 5 (LW ps js (J2++[Cell.lst ((fT dl).map .fz)])) (.rf (LW ps js J2).length)=some (.list (fT dl)):=v9 4 ij
    have o:aL (fun x:AV=>kF 5 (LW ps js (J2++[Cell.lst ((fT dl).map .fz)])) x.sv) [AV.rf (LW ps js J2).length,AV.fz (cU ⟨ac,none,none⟩)]=some [.list (fT dl),cU ⟨ac,none,none⟩]:=by
     unfold aL
     rw[show kF 5 (LW ps js (J2++[Cell.lst ((fT dl).map .fz)])) (AV.rf (LW ps js J2).length).sv=_ from h1]
     rfl
    show(aL (fun x:AV=>kF 5 (LW ps js (J2++[Cell.lst ((fT dl).map .fz)])) x.sv) [.rf (LW ps js J2).length,.fz (cU ⟨ac,none,none⟩)]).map PyData.tuple=_
    rw[o]
    rfl
   ·have h1:kF 5 (LW ps js (J2++[Cell.lst ((fT dl).map .fz)])) (.rf 2)=some (.list (fT dl)):=wZ 3 hsr2.app
    have o:aL (fun x:AV=>kF 5 (LW ps js (J2++[Cell.lst ((fT dl).map .fz)])) x.sv) [AV.rf 2,AV.fz (cU ⟨ac,none,none⟩)]=some [.list (fT dl),cU ⟨ac,none,none⟩]:=by
     unfold aL
     rw[show kF 5 (LW ps js (J2++[Cell.lst ((fT dl).map .fz)])) (AV.rf 2).sv=_ from h1]
     rfl
    show(aL (fun x:AV=>kF 5 (LW ps js (J2++[Cell.lst ((fT dl).map .fz)])) x.sv) [.rf 2,.fz (cU ⟨ac,none,none⟩)]).map PyData.tuple=_
    rw[o]
    rfl
 obtain⟨x,ω',h1,rfl⟩:=key
 unfold L10.Hb
 rw[show([PyData.list (ns.map .int)].map SV.fz)=[.fz (.list (ns.map .int))] from rfl,h1]
end K31
namespace K31
open PySem L2 L3 STP
noncomputable def top (i:Nat):Stmt:=PySem.Challenge.pw_chordbed_k31_letters_and_layers.main.body.getD i (.Pass ⟨0,0,0,0⟩)
noncomputable def fb:Stmt→List Stmt
 | .For _ _ b _ _=>b
 | .If _ b _ _=>b
 |_=>[]
noncomputable def av:Stmt→Expr
 | .Assign _ v _=>v
 |_=> .Name "" ⟨0,0,0,0⟩
noncomputable def ss:Expr→Expr
 | .Subscript _ v _=>v
 |e=>e
noncomputable def sP:Expr→Pos
 | .Subscript _ _ p=>p
 |_=>⟨0,0,0,0⟩
noncomputable def lp:Expr→Pos
 | .List _ p=>p
 |_=>⟨0,0,0,0⟩
noncomputable def iT:Stmt→Expr
 | .If c _ _ _=>c
 |_=> .Name "" ⟨0,0,0,0⟩
noncomputable def fI:Stmt→Expr
 | .For _ i _ _ _=>i
 |_=> .Name "" ⟨0,0,0,0⟩
noncomputable def iP:Stmt→Pos
 | .If _ _ _ p=>p
 |_=>⟨0,0,0,0⟩
noncomputable def aP:Stmt→Pos
 | .Assign _ _ p=>p
 |_=>⟨0,0,0,0⟩
noncomputable def nP:Stmt→Pos
 | .Assign [.Name _ p] _ _=>p
 |_=>⟨0,0,0,0⟩
noncomputable def sv:Expr→Expr
 | .Subscript v _ _=>v
 |e=>e
noncomputable def le:Expr→List Expr
 | .List l _=>l
 |_=>[]
noncomputable def Iu:Expr→Option Expr
 | .Slice a _ _ _=>a
 |_=>none
noncomputable def Iy:Expr→Option Expr
 | .Slice _ a _ _=>a
 |_=>none
noncomputable def Iw:Expr→Pos
 | .Slice _ _ _ p=>p
 |_=>⟨0,0,0,0⟩
noncomputable def Iv:Expr→List Expr
 | .Tuple l _ _=>l
 |_=>[]
noncomputable def Ix:Stmt→Expr
 | .Return (some e) _=>e
 |_=> .Name "" ⟨0,0,0,0⟩
noncomputable def rP:Stmt→Pos
 | .Return _ p=>p
 |_=>⟨0,0,0,0⟩
noncomputable def bl:Expr→Expr
 | .BinOp a _ _ _=>a
 |e=>e
noncomputable def br:Expr→Expr
 | .BinOp _ _ b _=>b
 |e=>e
noncomputable def bP:Expr→Pos
 | .BinOp _ _ _ p=>p
 |_=>⟨0,0,0,0⟩
noncomputable def dK:Expr→List (Option Expr)
 | .Dict k _ _=>k
 |_=>[]
noncomputable def dV:Expr→List Expr
 | .Dict _ v _=>v
 |_=>[]
noncomputable def dP:Expr→Pos
 | .Dict _ _ p=>p
 |_=>⟨0,0,0,0⟩
noncomputable def DP:Stmt:= .Pass ⟨0,0,0,0⟩
noncomputable def DE:Expr:= .Name "" ⟨0,0,0,0⟩
theorem Ht {l p t n env}:swapsWith (.List l p) t n env=pure false:=rfl
theorem Gm {l k p t n env}:swapsWith (.Tuple l k p) t n env=pure false:=rfl
theorem Hk {a b c p t n env}:swapsWith (.Call a b c p) t n env=pure false:=rfl
theorem Gf {a o b p t n env}:swapsWith (.BinOp a o b p) t n env=pure false:=rfl
theorem Da {a b p t n env}:swapsWith (.Subscript a b p) t n env=pure false:=rfl
theorem Hs {a p t n env}:swapsWith (.Name a p) t n env=pure false:=rfl
theorem Ee {a b p t n env}:swapsWith (.Constant a b p) t n env=pure false:=rfl
theorem EN {o a p t n env}:swapsWith (.UnaryOp o a p) t n env=pure false:=rfl
theorem Ft {a b c p t n env}:swapsWith (.Compare a b c p) t n env=pure false:=rfl
theorem F2 {a b p t n env}:swapsWith (.BoolOp a b p) t n env=pure false:=rfl
theorem Gh {a b c p t n env}:swapsWith (.IfExp a b c p) t n env=pure false:=rfl
section
variable {P:Program} {w:World} {K:PySem.W.Frag} {mg:Str→Option Value} {base:Heap} {f:Addr} {fd:FuncData}
theorem uJ:FnScope ["standing"] ["standing"] (ag (top 4)):=⟨rfl,rfl,rfl,by decide+kernel,rfl,by decide+kernel,by decide+kernel⟩
theorem uP (F:Fun K "layer_of" "layer_of" (top 4) f fd) (z_max:mg "max"=none):FnOk P w K mg base dR 1 f fd ["standing"] (qu K 1 cI):=by
 refine C4 (k:=0) (n:=1) (m:=1) (g:=kr) (FF:=cI) F uJ rfl rfl rfl (fun cdv A outer s H E hr=> ?_)
 have hu:=hr.units
 have hv:(A.deeper (PyProof.Rows.envOfC "layer_of" (ag (top 4)) s.heap.objs.size f cdv)).units+65<cLine:=by have:=hr.un;omega
 exact⟨_,(aw (cR (aQ rj (aR aI (pv 0) aA (fun _ _=>rfl)) fD (bq _)) (aC (b4 (aR aI (pv 0) aA (fun _ _=>rfl)))) bU)
   (aC (b4 (L10.Dg rfl rfl z_max (aa (gb ["key","act"] [] rfl (fY (aR aI (pv 0) aA (fun _ _=>rfl))) (fun _ _ _ _=>(rp rfl (fO (cE (i:=0) (show List.Nodup (["key","act"]:List Str) by decide+kernel) rfl (Or.inl rfl)) (fO (cE (i:=1) (show List.Nodup (["key","act"]:List Str) by decide+kernel) rfl (Or.inl rfl)) nh)))) (fun _ _ _ _=>(oE (aQ (cN hu) (aR aI (pv 1) aA (fun _ _=>rfl)) bZ (bq _)))) (fun _ _ _ _=>(aR aI (pv 1) aA (fun _ _=>rfl))) trivial rfl) aq))))),(d6 (qH (bf (aE sj (aE aN af az) fC)) (eN (aE aN af az)) jw)
   (eN (iO L10.Cz (ao (jx rfl rfl (iy (aE aN af az)) (Fz (wL cM (wL cM E8))) (bf (aE cO (aE aN af az) bX)) (aE aN af az)) aG))))⟩
theorem kH:FnScope ["bed","layer","key","meaning"] ["bed","layer","key"] (ag (top 8)):=⟨rfl,rfl,rfl,by decide+kernel,rfl,by decide+kernel,by decide+kernel⟩
theorem rA (F:Fun K "looked_up" "looked_up" (top 8) f fd):FnOk P w K mg base dR 1 f fd ["bed","layer","key"] (qu K 3 eV):=by
 refine C4 (k:=0) (n:=3) (m:=4) (g:=i8) (FF:=eV) F kH rfl rfl rfl (fun cdv A outer s H E hr=> ?_)
 have hu:=hr.units
 have hv:(A.deeper (PyProof.Rows.envOfC "looked_up" (ag (top 8)) s.heap.objs.size f cdv)).units+65<cLine:=by have:=hr.un;omega
 exact⟨_,(aw (bI (i:=3) kH.nd rfl (Or.inl rfl) (aR aI (aR aI (aR aI (pv 0) aA (fun _ _=>rfl)) (pv 1) (fun _ _=>rfl)) (pv 2) (fun _ _=>rfl)))
   (aw (cR (aQ (cN hu) (aR aI (pv 3) aA (fun _ _=>rfl)) bZ (bq _)) (aC (b4 (aR aI (aR aI (aR aI (pv 0) aA (fun _ _=>rfl)) aA (fun _ _=>rfl)) (pv 2) (fun _ _=>rfl)))) bU)
   (aC (b4 (pv 3))))),(d6 (gR (aE aN (aE aN (aE aN af az) af) af) cM)
   (d6 (qH (bf (aE cO (aE aN af az) bX)) (eN (aE aN (aE aN (aE aN af az) az) af)) jw)
   (eN af)))⟩
theorem pq:FnScope ["bed","keys"] ["bed","keys"] (ag (top 9)):=⟨rfl,rfl,rfl,by decide+kernel,rfl,by decide+kernel,by decide+kernel⟩
theorem ox (F:Fun K "chords_over" "chords_over" (top 9) f fd) (z_all:mg "all"=none):FnOk P w K mg base dR 1 f fd ["bed","keys"] (qu K 2 bw):=by
 refine C4 (k:=0) (n:=2) (m:=2) (g:=gQ) (FF:=bw) F pq rfl rfl rfl (fun cdv A outer s H E hr=> ?_)
 have hu:=hr.units
 have hv:(A.deeper (PyProof.Rows.envOfC "chords_over" (ag (top 9)) s.heap.objs.size f cdv)).units+65<cLine:=by have:=hr.un;omega
 exact⟨_,(aC (b4 (gb ["chord"] [("keys",1)] rfl (fY (aR aI (pv 0) aA (fun _ _=>rfl))) (fun _ _ _ _=>(cE (i:=0) (show List.Nodup (["chord","keys"]:List Str) by decide+kernel) rfl (Or.inr rfl))) (fun _ _ _ _=>(oE (jl (dW (zC rfl) rfl z_all GD (aa (gb ["key"] [("chord",0)] rfl (fY (pv 1)) (fun _ _ _ _=>(cE (i:=0) (show List.Nodup (["key","chord"]:List Str) by decide+kernel) rfl (Or.inl rfl))) (fun _ _ _ _=>gu) (fun _ _ _ _=>(jE (vK hv) (pv 0) (aR aI (pv 1) aA (fun _ _=>rfl)) (by with_unfolding_all rfl))) ⟨⟨rfl,rfl,Or.inl rfl⟩,trivial⟩ rfl) aq))))) (fun _ _ _ _=>(pv 0)) ⟨⟨rfl,rfl,Or.inl rfl⟩,trivial⟩ rfl))),(eN (jx rfl rfl (iy (aE aN af az)) cM (Ao (iO E9 (ao (jx rfl rfl (iy af) cM kT (aE vW af (aE aN af az))) aG))) af))⟩
theorem jV:FnScope ["bed","keys","chord"] ["bed","keys"] (ag (top 10)):=⟨rfl,rfl,rfl,by decide+kernel,rfl,by decide+kernel,by decide+kernel⟩
theorem pV (F:Fun K "chord_acts" "chord_acts" (top 10) f fd) (z_list:mg "list"=none) (z_sorted:mg "sorted"=none) (z_len:mg "len"=none) {W_NONE:Addr} (m_NONE:mg "NONE"=some (.ref W_NONE)) (h_NONE:∀O H,DV O K H (.ref W_NONE) (.tuple [(.str "none")])):FnOk P w K mg base dR 1 f fd ["bed","keys"] (qu K 2 dN):=by
 refine C4 (k:=0) (n:=2) (m:=3) (g:=ik) (FF:=dN) F jV rfl rfl rfl (fun cdv A outer s H E hr=> ?_)
 have hu:=hr.units
 have hv:(A.deeper (PyProof.Rows.envOfC "chord_acts" (ag (top 10)) s.heap.objs.size f cdv)).units+65<cLine:=by have:=hr.un;omega
 exact⟨_,(aw (lw PassesOwn.never rfl (fY (aR aI (pv 0) aA (fun _ _=>rfl))) (cE (i:=2) jV.nd rfl (Or.inl rfl)) (aC (cR (aQ (cN hu) (eB sJ rfl z_list nS (aa (aR aI (pv 2) aA (fun _ _=>rfl)) aq)) (dW L9.rV rfl z_sorted nI (aa (pv 1) aq)) (bq _)) (aC (b4 (cT dn (et (aa (bN (aa bZ (aa (aR aI (pv 2) aA (fun _ _=>rfl)) aq))) aq)) (cT jF (et (aa (gG (v:= .ref _) rfl m_NONE rfl) aq)) (cT zM (dW i9 rfl z_len ug (aa (pv 1) aq)) aA))))) bU)))
   (aC (b4 (gb ["key"] [("bed",0)] rfl (fY (pv 1)) (fun _ _ _ _=>(cE (i:=0) (show List.Nodup (["key","bed"]:List Str) by decide+kernel) rfl (Or.inl rfl))) (fun _ _ _ _=>gu) (fun _ _ _ _=>(aR aI (aR aI (aR aI (pv 1) aA (fun _ _=>rfl)) aA (fun _ _=>rfl)) (pv 0) (fun _ _=>rfl))) ⟨⟨rfl,rfl,Or.inl rfl⟩,trivial⟩ rfl)))),(d6 (vD (iy (aE aN af az)) cM (qH (bf (aE cO (iO Ck (ao (aE aN af az) aG)) (iO L9.wm (ao af aG)))) (eN (aE dz (ei (ao (cL (ao bX (ao (aE aN af az) aG))) aG)) (aE h9 (ei (ao (mM h_NONE) aG)) (aE xl (iO og (ao af aG)) az)))) jw))
   (eN (jx rfl rfl (iy af) cM kT (aE aN (aE aN (aE aN af az) az) af))))⟩
theorem rR:FnScope ["_law_script","_law_k"] ["_law_script","_law_k"] (ag (top 12)):=⟨rfl,rfl,rfl,by decide+kernel,rfl,by decide+kernel,by decide+kernel⟩
theorem sI (F:Fun K "_law_cell" "_law_cell" (top 12) f fd) (z_len:mg "len"=none):FnOk P w K mg base dR 1 f fd ["_law_script","_law_k"] (qu K 2 dI):=by
 refine C4 (k:=0) (n:=2) (m:=2) (g:=mr) (FF:=dI) F rR rfl rfl rfl (fun cdv A outer s H E hr=> ?_)
 have hu:=hr.units
 have hv:(A.deeper (PyProof.Rows.envOfC "_law_cell" (ag (top 12)) s.heap.objs.size f cdv)).units+65<cLine:=by have:=hr.un;omega
 exact⟨_,(aC (b4 (ud (aQ G3 (pv 1) (dW i9 rfl z_len ug (aa (pv 0) aq)) (bq _)) (aR aI (pv 0) (pv 1) (fun _ _=>rfl)) aA))),(eN (GQ (bf (aE Ej af (iO og (ao af aG)))) (aE aN af af) az))⟩
theorem io:FnScope ["_law_cell_here","_law_salt","_law_many","_law_number"] ["_law_cell_here","_law_salt","_law_many"] (ag (top 13)):=⟨rfl,rfl,rfl,by decide+kernel,rfl,by decide+kernel,by decide+kernel⟩
theorem r8 (F:Fun K "_law_draw" "_law_draw" (top 13) f fd):FnOk P w K mg base dR 1 f fd ["_law_cell_here","_law_salt","_law_many"] (qu K 3 bB):=by
 refine C4 (k:=0) (n:=3) (m:=4) (g:=mx) (FF:=bB) F io rfl rfl rfl (fun cdv A outer s H E hr=> ?_)
 have hu:=hr.units
 have hv:(A.deeper (PyProof.Rows.envOfC "_law_draw" (ag (top 13)) s.heap.objs.size f cdv)).units+65<cLine:=by have:=hr.un;omega
 exact⟨_,(aw (bI (i:=3) io.nd rfl (Or.inl rfl) (cT lB (cT jF (cT dn (cT lB (pv 0) aA) (pv 1)) (cT dn (pv 1) aA)) aA))
   (aw (bI (i:=3) io.nd rfl (Or.inl rfl) (cT lB (cT dn (cT dn (cT jF (pv 3) (pv 3)) (cT oH (pv 0) aA)) (cT jF aA (pv 1))) aA))
   (aC (b4 (cT lB (cT oH (pv 3) aA) (pv 2)))))),(d6 (gR (aE ju (aE h9 (aE dz (aE ju af az) af) (aE dz af az)) az) cM)
   (d6 (gR (aE ju (aE dz (aE dz (aE h9 af af) (aE r9 af az)) (aE h9 az af)) az) cM)
   (eN (aE ju (aE r9 af az) af))))⟩
theorem mK:FnScope ["_law_cell_here","_law_layer_here","_law_layers"] ["_law_cell_here","_law_layer_here","_law_layers"] (ag (top 14)):=⟨rfl,rfl,rfl,by decide+kernel,rfl,by decide+kernel,by decide+kernel⟩
theorem mF (F:Fun K "_law_meaning" "_law_meaning" (top 14) f fd) (c__law_draw:gn P w K mg base 1 "_law_draw" ["_law_cell_here","_law_salt","_law_many"] 3 bB):FnOk P w K mg base dR 2 f fd ["_law_cell_here","_law_layer_here","_law_layers"] (qu K 3 cX):=by
 refine C4 (k:=1) (n:=3) (m:=3) (g:=eY) (FF:=cX) F mK rfl rfl rfl (fun cdv A outer s H E hr=> ?_)
 have hu:=hr.units
 have hv:(A.deeper (PyProof.Rows.envOfC "_law_meaning" (ag (top 14)) s.heap.objs.size f cdv)).units+65<cLine:=by have:=hr.un;omega
 exact⟨_,(aw (cR (PW.pt (gP (aQ D0 (pv 1) aA (bq _)) (gc (aQ (cN hu) (cx c__law_draw hr (aa (pv 0) (aa aA (aa aA aq)))) aA (bq _))))) (aC (b4 (bN (aa bZ aq)))) bU)
   (aw (cR (PW.pt (gP (aQ D0 (pv 2) aA (bq _)) (gc (aQ (cN hu) (cx c__law_draw hr (aa (pv 0) (aa aA (aa aA aq)))) aA (bq _))))) (aC (b4 (bN (aa bZ (aa (cT dn aA (cx c__law_draw hr (aa (pv 0) (aa aA (aa (cT zM (pv 2) aA) aq))))) aq))))) bU)
   (aw (cR (aQ (cN hu) (cx c__law_draw hr (aa (pv 0) (aa aA (aa aA aq)))) aA (bq _)) (aC (b4 (bN (aa bZ aq)))) bU)
   (aC (b4 (bN (aa bZ (aa (aR aI bZ (cx c__law_draw hr (aa (pv 0) (aa aA (aa aA aq)))) (fun _ _=>rfl)) aq)))))))),(d6 (qH (xH (bf (aE zk af az)) (bf (aE cO (eP (ao af (ao az (ao az aG)))) az))) (eN (cL (ao bX aG))) jw)
   (d6 (qH (xH (bf (aE zk af az)) (bf (aE cO (eP (ao af (ao az (ao az aG)))) az))) (eN (cL (ao bX (ao (aE dz az (eP (ao af (ao az (ao (aE xl af az) aG))))) aG)))) jw)
   (d6 (qH (bf (aE cO (eP (ao af (ao az (ao az aG)))) az)) (eN (cL (ao bX aG))) jw)
   (eN (cL (ao bX (ao (aE Dj bX (eP (ao af (ao az (ao az aG))))) aG)))))))⟩
theorem ez:FnScope ["_law_script","_law_cell_here","_law_keys","_law_layers","_law_rows","_law_layer_here","_law_cells"] ["_law_script"] (ag (top 15)):=⟨rfl,rfl,rfl,by decide+kernel,rfl,by decide+kernel,by decide+kernel⟩
theorem vd (F:Fun K "_law_bed" "_law_bed" (top 15) f fd) (c__law_cell:gn P w K mg base 1 "_law_cell" ["_law_script","_law_k"] 2 dI) (c__law_draw:gn P w K mg base 1 "_law_draw" ["_law_cell_here","_law_salt","_law_many"] 3 bB) (c__law_meaning:gn P w K mg base 2 "_law_meaning" ["_law_cell_here","_law_layer_here","_law_layers"] 3 cX) (z_range:mg "range"=none) (z_tuple:mg "tuple"=none):FnOk P w K mg base dR 3 f fd ["_law_script"] (qu K 1 fE):=by
 refine C4 (k:=2) (n:=1) (m:=7) (g:=iq) (FF:=fE) F ez rfl rfl rfl (fun cdv A outer s H E hr=> ?_)
 have hu:=hr.units
 have hv:(A.deeper (PyProof.Rows.envOfC "_law_bed" (ag (top 15)) s.heap.objs.size f cdv)).units+65<cLine:=by have:=hr.un;omega
 exact⟨_,(aw (bI (i:=1) ez.nd rfl (Or.inl rfl) (cx c__law_cell hr (aa (pv 0) (aa aA aq))))
   (aw (bI (i:=2) ez.nd rfl (Or.inr rfl) (cT dn aA (cx c__law_draw hr (aa (pv 1) (aa aA (aa aA aq))))))
   (aw (bI (i:=3) ez.nd rfl (Or.inr rfl) (cT dn aA (cx c__law_draw hr (aa (pv 1) (aa aA (aa aA aq))))))
   (aw (bI (i:=4) ez.nd rfl (Or.inl rfl) (et aq))
   (aw (lw PassesOwn.never rfl (qp rfl z_range (aa (pv 3) aq)) (cE (i:=5) ez.nd rfl (Or.inr rfl)) (aw (Df (i:=6) ["_law_key"] [("_law_script",0),("_law_keys",2),("_law_layer_here",5)] ez.nd rfl rfl rfl (qp rfl z_range (aa (pv 2) aq)) (fun _ _ _ _=>(cE (i:=0) (show List.Nodup (["_law_key","_law_script","_law_keys","_law_layer_here"]:List Str) by decide+kernel) rfl (Or.inl rfl))) (fun _ _ _ _=>gu) (fun _ _ _ _=>(cx c__law_cell hr (aa (pv 1) (aa (cT dn (cT dn aA (cT jF (pv 2) (pv 3))) (pv 0)) aq)))) ⟨⟨rfl,rfl,Or.inl rfl⟩,⟨⟨rfl,rfl,Or.inl rfl⟩,⟨⟨rfl,rfl,Or.inl rfl⟩,trivial⟩⟩⟩ rfl)
   (aC (cD (oa PySem.F.plainAttrs_list PySem.F.slot_list_append PySem.F.type_list_append eS (pv 4) (aa (eB fK rfl z_tuple kO (aa (gb ["_law_one"] [("_law_layer_here",5),("_law_layers",3)] rfl (fY (pv 6)) (fun _ _ _ _=>(cE (i:=0) (show List.Nodup (["_law_one","_law_layer_here","_law_layers"]:List Str) by decide+kernel) rfl (Or.inl rfl))) (fun _ _ _ _=>gu) (fun _ _ _ _=>(cx c__law_meaning hr (aa (pv 0) (aa (pv 1) (aa (pv 2) aq))))) ⟨⟨rfl,rfl,Or.inl rfl⟩,⟨⟨rfl,rfl,Or.inl rfl⟩,trivial⟩⟩ rfl) aq)) aq))))))
   (aC (b4 (bN (aa (pv 2) (aa (eB fK rfl z_tuple kO (aa (pv 4) aq)) (aa (bN aq) (aa (cT dn aA (cx c__law_draw hr (aa (pv 1) (aa aA (aa aA aq))))) aq)))))))))))),(d6 (gR (eP (ao af (ao az aG))) cM)
   (d6 (gR (aE dz az (eP (ao af (ao az (ao az aG))))) cM)
   (d6 (gR (aE dz az (eP (ao af (ao az (ao az aG))))) cM)
   (d6 (gR (ei aG) cM)
   (d6 (vD (x5 (ao af aG)) cM (d6 (gR (jx rfl rfl (x5 (ao af aG)) cM kT (eP (ao af (ao (aE dz (aE dz az (aE h9 af af)) af) aG)))) cM)
   (xP (Ag (iO ld (ao (jx rfl rfl (iy af) cM kT (eP (ao af (ao af (ao af aG))))) aG))))))
   (eN (cL (ao af (ao (iO ld (ao af aG)) (ao (cL aG) (ao (aE dz az (eP (ao af (ao az (ao az aG))))) aG)))))))))))⟩
theorem e9:FnScope ["_law_script","_law_at","_law_keys","_law_found","_law_cell_here","_law_pick"] ["_law_script","_law_at","_law_keys"] (ag (top 16)):=⟨rfl,rfl,rfl,by decide+kernel,rfl,by decide+kernel,by decide+kernel⟩
theorem pd (F:Fun K "_law_events" "_law_events" (top 16) f fd) (c__law_draw:gn P w K mg base 1 "_law_draw" ["_law_cell_here","_law_salt","_law_many"] 3 bB):FnOk P w K mg base dR 2 f fd ["_law_script","_law_at","_law_keys"] (qu K 3 dY):=by
 refine C4 (k:=1) (n:=3) (m:=6) (g:=fL) (FF:=dY) F e9 rfl rfl rfl (fun cdv A outer s H E hr=> ?_)
 have hu:=hr.units
 have hv:(A.deeper (PyProof.Rows.envOfC "_law_events" (ag (top 16)) s.heap.objs.size f cdv)).units+65<cLine:=by have:=hr.un;omega
 exact⟨_,(aw (bI (i:=3) e9.nd rfl (Or.inl rfl) (et aq))
   (aw (lw PassesOwn.never rfl (fY (An FH (pv 0) (xW (pv 1)) (xW aA))) (cE (i:=4) e9.nd rfl (Or.inl rfl)) (aw (bI (i:=5) e9.nd rfl (Or.inl rfl) (cx c__law_draw hr (aa (pv 4) (aa aA (aa (cT dn (cT jF aA (pv 2)) aA) aq)))))
   (aC (cD (oa PySem.F.plainAttrs_list PySem.F.slot_list_append PySem.F.type_list_append eS (pv 3) (aa (aR aI (et (aa (bN (aa bZ (aa (cT lB (pv 5) (pv 2)) aq))) (aa (bN (aa bZ (aa (cT lB (pv 5) (pv 2)) aq))) (aa (bN (aa bZ (aa aA aq))) aq)))) (cT oH (pv 5) (pv 2)) (fun _ _=>rfl)) aq))))))
   (aC (b4 (pv 3))))),(d6 (gR (ei aG) cM)
   (d6 (vD (iy (GH Cl af (uT af) (uT az))) cM (d6 (gR (eP (ao af (ao az (ao (aE dz (aE h9 az af) az) aG)))) cM)
   (xP (Ag (aE aN (ei (ao (cL (ao bX (ao (aE ju af af) aG))) (ao (cL (ao bX (ao (aE ju af af) aG))) (ao (cL (ao bX (ao az aG))) aG)))) (aE r9 af af))))))
   (eN af)))⟩
end
end K31
namespace K31
open PySem L2 L3 L10 STP
section
variable {P:Program} {w:World} {K:PySem.W.Frag} {mg:Str→Option Value} {base:Heap} {f:Addr} {fd:FuncData}
theorem lL:FnScope ["self","bed","standing"] ["self","bed","standing"] (ag (am (top 7) 0)):=⟨rfl,rfl,rfl,by decide+kernel,rfl,by decide+kernel,by decide+kernel⟩
theorem lU (F:Fun K "__init__" "Hand.__init__" (am (top 7) 0) f fd) (cf_Hand:hV K "Hand" ["bed","acts","waiting","once","sent"]) (z_dict:mg "dict"=none):FnOk P w K mg base dR 3 f fd ["self","bed","standing"] (eI K 3 cQ):=by
 refine rg (k:=2) (n:=3) (m:=3) (g:=iC) (FF:=cQ) F lL rfl rfl rfl (fun cdv A outer s H E hr=> ?_)
 have hu:=hr.units
 have hu1:(A.deeper (PyProof.Rows.envOfC "Hand.__init__" (ag (am (top 7) 0)) s.heap.objs.size f cdv)).units+1<cLine:=by have:=hr.units;omega
 have hv:(A.deeper (PyProof.Rows.envOfC "Hand.__init__" (ag (am (top 7) 0)) s.heap.objs.size f cdv)).units+65<cLine:=by have:=hr.un;omega
 exact⟨_,(aw (fG (pv 0) (pv 1) rfl)
   (aw (fG (pv 0) (eB (wA rfl) rfl z_dict Fo (aa (aR aI (pv 2) aA (fun _ _=>rfl)) aq)) rfl)
   (aw (fG (pv 0) (aR aI (pv 2) aA (fun _ _=>rfl)) rfl)
   (aw (fG (pv 0) (aR aI (pv 2) aA (fun _ _=>rfl)) rfl)
   (aC (fG (pv 0) (et aq) rfl)))))),(aH (eF cf_Hand (.head _) au (ae af))
   (aH (eF cf_Hand (.tail _ (.head _)) au (z8 (ae (aE aN af az))))
   (aH (eF cf_Hand (.tail _ (.tail _ (.head _))) au (ae (aE aN af az)))
   (aH (eF cf_Hand (.tail _ (.tail _ (.tail _ (.head _)))) au (ae (aE aN af az)))
   (eF cf_Hand (.tail _ (.tail _ (.tail _ (.tail _ (.head _))))) au (ae (ei aG)))))))⟩
theorem oA:FnScope ["self"] ["self"] (ag (am (top 7) 1)):=⟨rfl,rfl,rfl,by decide+kernel,rfl,by decide+kernel,by decide+kernel⟩
theorem nH (F:Fun K "stands" "Hand.stands" (am (top 7) 1) f fd) (cf_Hand:hV K "Hand" ["bed","acts","waiting","once","sent"]) (z_tuple:mg "tuple"=none) (z_sorted:mg "sorted"=none):FnOk P w K mg base dR 3 f fd ["self"] (eI K 1 bx):=by
 refine rg (k:=2) (n:=1) (m:=1) (g:=j3) (FF:=bx) F oA rfl rfl rfl (fun cdv A outer s H E hr=> ?_)
 have hu:=hr.units
 have hu1:(A.deeper (PyProof.Rows.envOfC "Hand.stands" (ag (am (top 7) 1)) s.heap.objs.size f cdv)).units+1<cLine:=by have:=hr.units;omega
 have hv:(A.deeper (PyProof.Rows.envOfC "Hand.stands" (ag (am (top 7) 1)) s.heap.objs.size f cdv)).units+65<cLine:=by have:=hr.un;omega
 exact⟨_,(aC (b4 (bN (aa (eB fK rfl z_tuple kO (aa (gb ["key"] [("self",0)] rfl (fY (dW (pw rfl) rfl z_sorted nI (aa (bT (pv 0) rfl) aq))) (fun _ _ _ _=>(cE (i:=0) (show List.Nodup (["key","self"]:List Str) by decide+kernel) rfl (Or.inl rfl))) (fun _ _ _ _=>gu) (fun _ _ _ _=>(bN (aa (pv 0) (aa (xo hu1 (bT (pv 1) rfl) (pv 0) (fun _ _=>rfl)) aq)))) ⟨⟨rfl,rfl,Or.inl rfl⟩,trivial⟩ rfl) aq)) (aa (bT (pv 0) rfl) (aa (bT (pv 0) rfl) aq)))))),(dw (gh (ay (wv ld (ay (oO rfl rfl (sX (uu (bv cf_Hand (.tail _ (.head _)) au))) aM oI (gh (ay (ae af) (ay (uw (bv cf_Hand (.tail _ (.head _)) au) (ae af)) aK)))) aK)) (ay (bv cf_Hand (.tail _ (.tail _ (.head _))) au) (ay (bv cf_Hand (.tail _ (.tail _ (.tail _ (.head _)))) au) aK)))))⟩
theorem kE:FnScope ["self","key"] ["self","key"] (ag (am (top 7) 2)):=⟨rfl,rfl,rfl,by decide+kernel,rfl,by decide+kernel,by decide+kernel⟩
theorem ko (F:Fun K "is_waiting" "Hand.is_waiting" (am (top 7) 2) f fd) (cf_Hand:hV K "Hand" ["bed","acts","waiting","once","sent"]):FnOk P w K mg base dR 3 f fd ["self","key"] (eI K 2 bG):=by
 refine rg (k:=2) (n:=2) (m:=2) (g:=gJ) (FF:=bG) F kE rfl rfl rfl (fun cdv A outer s H E hr=> ?_)
 have hu:=hr.units
 have hu1:(A.deeper (PyProof.Rows.envOfC "Hand.is_waiting" (ag (am (top 7) 2)) s.heap.objs.size f cdv)).units+1<cLine:=by have:=hr.units;omega
 have hv:(A.deeper (PyProof.Rows.envOfC "Hand.is_waiting" (ag (am (top 7) 2)) s.heap.objs.size f cdv)).units+65<cLine:=by have:=hr.un;omega
 exact⟨_,(aC (b4 (Ey (jE rj (bT (pv 0) rfl) fD (bq _)) (ES (jE (vK hv) (pv 1) (aR aI (bT (pv 0) rfl) aA (fun _ _=>rfl)) (by with_unfolding_all rfl)))))),(dw (CU (cZ sj (bv cf_Hand (.tail _ (.tail _ (.head _))) au) (ae fC)) (cZ vW (ae af) (fm (bv cf_Hand (.tail _ (.tail _ (.head _))) au) (ae az)))))⟩
theorem mN:FnScope ["self","act"] ["self","act"] (ag (am (top 7) 13)):=⟨rfl,rfl,rfl,by decide+kernel,rfl,by decide+kernel,by decide+kernel⟩
theorem mH (F:Fun K "has_act" "Hand.has_act" (am (top 7) 13) f fd) (cf_Hand:hV K "Hand" ["bed","acts","waiting","once","sent"]) (z_list:mg "list"=none):FnOk P w K mg base dR 3 f fd ["self","act"] (eI K 2 bA):=by
 refine rg (k:=2) (n:=2) (m:=2) (g:=iS) (FF:=bA) F mN rfl rfl rfl (fun cdv A outer s H E hr=> ?_)
 have hu:=hr.units
 have hu1:(A.deeper (PyProof.Rows.envOfC "Hand.has_act" (ag (am (top 7) 13)) s.heap.objs.size f cdv)).units+1<cLine:=by have:=hr.units;omega
 have hv:(A.deeper (PyProof.Rows.envOfC "Hand.has_act" (ag (am (top 7) 13)) s.heap.objs.size f cdv)).units+65<cLine:=by have:=hr.un;omega
 exact⟨_,(aC (b4 (jE (vK hv) (pv 1) (eB (j9 rfl) rfl z_list nS (aa (re PySem.F.plainAttrs_dict PySem.F.slot_dict_values PySem.F.type_dict_values jy (bT (pv 0) rfl)) aq)) (by with_unfolding_all rfl)))),(dw (cZ vW (ae af) (oS (bv cf_Hand (.tail _ (.head _)) au))))⟩
theorem sO:FnScope ["self","key","act"] ["self","key","act"] (ag (am (top 7) 11)):=⟨rfl,rfl,rfl,by decide+kernel,rfl,by decide+kernel,by decide+kernel⟩
theorem rD (F:Fun K "come" "Hand.come" (am (top 7) 11) f fd) (cf_Hand:hV K "Hand" ["bed","acts","waiting","once","sent"]) (mt_Hand_has_act:bE P w K mg base dR 3 "Hand" "has_act" ["self","act"] (eI K 2 bA)):FnOk P w K mg base dR 4 f fd ["self","key","act"] (eI K 3 bt):=by
 refine rg (k:=3) (n:=3) (m:=3) (g:=mi) (FF:=bt) F sO rfl rfl rfl (fun cdv A outer s H E hr=> ?_)
 have hu:=hr.units
 have hu1:(A.deeper (PyProof.Rows.envOfC "Hand.come" (ag (am (top 7) 11)) s.heap.objs.size f cdv)).units+1<cLine:=by have:=hr.units;omega
 have hv:(A.deeper (PyProof.Rows.envOfC "Hand.come" (ag (am (top 7) 11)) s.heap.objs.size f cdv)).units+65<cLine:=by have:=hr.un;omega
 exact⟨_,(aw (cR (PW.pt (gP (aQ (cN hu) (aR aI (pv 2) aA (fun _ _=>rfl)) bZ (bq _)) (gc (sg (jl (gw mt_Hand_has_act dS hr (pv 0) (aa (pv 2) aq))))))) (aC (cD (oa PySem.F.plainAttrs_list PySem.F.slot_list_append PySem.F.type_list_append eS (bT (pv 0) rfl) (aa (bN (aa (aR aI (pv 2) aA (fun _ _=>rfl)) (aa bZ aq))) aq)))) bU)
   (aC (xw hu1 (bT (pv 0) rfl) (pv 1) (pv 2) rfl))),(aH (cH (gB (b0 (bf (aE cO (aE aN af az) bX))) (yf (kZ (cz cf_Hand au (ay (ae af) aK))))) (b9 (kX (bv cf_Hand (.tail _ (.tail _ (.tail _ (.tail _ (.head _))))) au) (ae (cL (ao (aE aN af az) (ao bX aG)))))) b8)
   (tO (bv cf_Hand (.tail _ (.head _)) au) (ae af) (ae af)))⟩
theorem oK:FnScope ["self","key","act"] ["self","key"] (ag (am (top 7) 12)):=⟨rfl,rfl,rfl,by decide+kernel,rfl,by decide+kernel,by decide+kernel⟩
theorem wr (F:Fun K "go" "Hand.go" (am (top 7) 12) f fd) (cf_Hand:hV K "Hand" ["bed","acts","waiting","once","sent"]) (mt_Hand_has_act:bE P w K mg base dR 3 "Hand" "has_act" ["self","act"] (eI K 2 bA)):FnOk P w K mg base dR 4 f fd ["self","key"] (eI K 2 fA):=by
 refine rg (k:=3) (n:=2) (m:=3) (g:=p7) (FF:=fA) F oK rfl rfl rfl (fun cdv A outer s H E hr=> ?_)
 have hu:=hr.units
 have hu1:(A.deeper (PyProof.Rows.envOfC "Hand.go" (ag (am (top 7) 12)) s.heap.objs.size f cdv)).units+1<cLine:=by have:=hr.units;omega
 have hv:(A.deeper (PyProof.Rows.envOfC "Hand.go" (ag (am (top 7) 12)) s.heap.objs.size f cdv)).units+65<cLine:=by have:=hr.un;omega
 exact⟨_,(aw (bI (i:=2) oK.nd rfl (Or.inl rfl) (u7 (bT (pv 0) rfl) (pv 1) ⟨rfl,rfl,rfl,rfl⟩))
   (aC (cR (PW.pt (gP (aQ (cN hu) (aR aI (pv 2) aA (fun _ _=>rfl)) bZ (bq _)) (gc (sg (jl (gw mt_Hand_has_act dS hr (pv 0) (aa (pv 2) aq))))))) (aC (cD (oa PySem.F.plainAttrs_list PySem.F.slot_list_append PySem.F.type_list_append eS (bT (pv 0) rfl) (aa (bN (aa (aR aI (pv 2) aA (fun _ _=>rfl)) (aa bZ aq))) aq)))) bU))),(aH (bF (uM (bv cf_Hand (.tail _ (.head _)) au) (ae af)) aM)
   (cH (gB (b0 (bf (aE cO (aE aN af az) bX))) (yf (kZ (cz cf_Hand au (ay (ae af) aK))))) (b9 (kX (bv cf_Hand (.tail _ (.tail _ (.tail _ (.tail _ (.head _))))) au) (ae (cL (ao (aE aN af az) (ao bX aG)))))) b8))⟩
theorem dB:FnScope ["self","keys","what","acts","key","act"] ["self"] (ag (am (top 7) 10)):=⟨rfl,rfl,rfl,by decide+kernel,rfl,by decide+kernel,by decide+kernel⟩
theorem oo (F:Fun K "decide" "Hand.decide" (am (top 7) 10) f fd) (cf_Hand:hV K "Hand" ["bed","acts","waiting","once","sent"]) (mt_Hand_come:bE P w K mg base dR 4 "Hand" "come" ["self","key","act"] (eI K 3 bt)) (c_chord_acts:gn P w K mg base 1 "chord_acts" ["bed","keys"] 2 dN) (z_zip:mg "zip"=none) {W_CHORD:Addr} (m_CHORD:mg "CHORD"=some (.ref W_CHORD)) (h_CHORD:∀O H,L3.DV O K H (.ref W_CHORD) (.tuple [(.str "chord")])):FnOk P w K mg base dR 5 f fd ["self"] (eI K 1 bO):=by
 refine rg (k:=4) (n:=1) (m:=6) (g:=j7) (FF:=bO) F dB rfl rfl rfl (fun cdv A outer s H E hr=> ?_)
 have hu:=hr.units
 have hu1:(A.deeper (PyProof.Rows.envOfC "Hand.decide" (ag (am (top 7) 10)) s.heap.objs.size f cdv)).units+1<cLine:=by have:=hr.units;omega
 have hv:(A.deeper (PyProof.Rows.envOfC "Hand.decide" (ag (am (top 7) 10)) s.heap.objs.size f cdv)).units+65<cLine:=by have:=hr.un;omega
 exact⟨_,(aw (bI (i:=1) dB.nd rfl (Or.inl rfl) (aR aI (bT (pv 0) rfl) aA (fun _ _=>rfl)))
   (aw (bI (i:=2) dB.nd rfl (Or.inl rfl) (aR aI (bT (pv 0) rfl) aA (fun _ _=>rfl)))
   (aw (fG (pv 0) fD rfl)
   (aw (bI (i:=3) dB.nd rfl (Or.inl rfl) (ud (aQ (cN hu) (pv 2) (gG (v:= .ref _) rfl m_CHORD rfl) (bq _)) (cx c_chord_acts hr (aa (bT (pv 0) rfl) (aa (pv 1) aq))) (et (aa (bN (aa bZ (aa (aR aI (pv 2) aA (fun _ _=>rfl)) aq))) aq))))
   (aC (lw PassesOwn.never rfl (Fe rfl z_zip (aa (pv 1) (aa (pv 3) aq))) (rp rfl (fO (cE (i:=4) dB.nd rfl (Or.inl rfl)) (fO (cE (i:=5) dB.nd rfl (Or.inl rfl)) nh))) (aC (cD (gw mt_Hand_come dS hr (pv 0) (aa (pv 4) (aa (pv 5) aq))))))))))),(aH (bF (fm (bv cf_Hand (.tail _ (.tail _ (.head _))) au) (ae az)) aM)
   (aH (bF (fm (bv cf_Hand (.tail _ (.tail _ (.head _))) au) (ae az)) aM)
   (aH (eF cf_Hand (.tail _ (.tail _ (.head _))) au (ae fC))
   (aH (bF (ni (FX (b0 (bf (aE cO af (mM h_CHORD)))) (ir (ay (bv cf_Hand (.head _) au) (ay (ae af) aK))) (ae (ei (ao (cL (ao bX (ao (aE aN af az) aG))) aG))))) aM)
   (tH (n9 (FV (ao af (ao af aG)))) (rN (g7 aM (g7 aM rC))) (b9 (cz cf_Hand au (ay (ae af) (ay (ae af) aK)))))))))⟩
theorem jQ:FnScope ["self","key"] ["self","key"] (ag (am (top 7) 4)):=⟨rfl,rfl,rfl,by decide+kernel,rfl,by decide+kernel,by decide+kernel⟩
theorem jS (F:Fun K "makes_chord" "Hand.makes_chord" (am (top 7) 4) f fd) (cf_Hand:hV K "Hand" ["bed","acts","waiting","once","sent"]) (mt_Hand_stands:bE P w K mg base dR 3 "Hand" "stands" ["self"] (eI K 1 bx)) (c_layer_of:gn P w K mg base 1 "layer_of" ["standing"] 1 cI) (c_chords_over:gn P w K mg base 1 "chords_over" ["bed","keys"] 2 bw) {W_CHORD:Addr} (m_CHORD:mg "CHORD"=some (.ref W_CHORD)) (h_CHORD:∀O H,L3.DV O K H (.ref W_CHORD) (.tuple [(.str "chord")])):FnOk P w K mg base dR 4 f fd ["self","key"] (eI K 2 cF):=by
 refine rg (k:=3) (n:=2) (m:=2) (g:=gv) (FF:=cF) F jQ rfl rfl rfl (fun cdv A outer s H E hr=> ?_)
 have hu:=hr.units
 have hu1:(A.deeper (PyProof.Rows.envOfC "Hand.makes_chord" (ag (am (top 7) 4)) s.heap.objs.size f cdv)).units+1<cLine:=by have:=hr.units;omega
 have hv:(A.deeper (PyProof.Rows.envOfC "Hand.makes_chord" (ag (am (top 7) 4)) s.heap.objs.size f cdv)).units+65<cLine:=by have:=hr.un;omega
 exact⟨_,(aw (cR (PW.pt (oQ (aQ BL (bT (pv 0) rfl) fD (bq _)) (oQ (aQ (gW hu) (aR aI (bT (pv 0) rfl) aA (fun _ _=>rfl)) (gG (v:= .ref _) rfl m_CHORD rfl) (bq _)) (tt (aQ (gW hu) (cx c_layer_of hr (aa (iM mt_Hand_stands dS hr (pv 0)) aq)) aA (bq _)))))) (aC (b4 tU)) bU)
   (aC (b4 (jE (gW hu) (cx c_chords_over hr (aa (bT (pv 0) rfl) (aa (cT dn (aR aI (bT (pv 0) rfl) aA (fun _ _=>rfl)) (bN (aa (pv 1) aq))) aq))) (et aq) (bq _))))),(aH (cH (kz (cS (cZ xC (bv cf_Hand (.tail _ (.tail _ (.head _))) au) (ae fC))) (kz (cS (cZ gY (fm (bv cf_Hand (.tail _ (.tail _ (.head _))) au) (ae az)) (ae (mM h_CHORD)))) (cS (cZ gY (ir (ay (cz cf_Hand au aK) aK)) (ae az))))) (dw (ae vf)) b8)
   (dw (cZ gY (ir (ay (bv cf_Hand (.head _) au) (ay (cZ dz (fm (bv cf_Hand (.tail _ (.tail _ (.head _))) au) (ae az)) (ae (cL (ao af aG)))) aK))) (ae (ei aG)))))⟩
theorem fR:FnScope ["self","key","keys"] ["self","key"] (ag (am (top 7) 5)):=⟨rfl,rfl,rfl,by decide+kernel,rfl,by decide+kernel,by decide+kernel⟩
theorem i7 (F:Fun K "put_to_chord" "Hand.put_to_chord" (am (top 7) 5) f fd) (cf_Hand:hV K "Hand" ["bed","acts","waiting","once","sent"]) (mt_Hand_decide:bE P w K mg base dR 5 "Hand" "decide" ["self"] (eI K 1 bO)) (c_chords_over:gn P w K mg base 1 "chords_over" ["bed","keys"] 2 bw) (z_len:mg "len"=none) {W_CHORD:Addr} (m_CHORD:mg "CHORD"=some (.ref W_CHORD)) (h_CHORD:∀O H,L3.DV O K H (.ref W_CHORD) (.tuple [(.str "chord")])):FnOk P w K mg base dR 6 f fd ["self","key"] (eI K 2 cA):=by
 refine rg (k:=5) (n:=2) (m:=3) (g:=f7) (FF:=cA) F fR rfl rfl rfl (fun cdv A outer s H E hr=> ?_)
 have hu:=hr.units
 have hu1:(A.deeper (PyProof.Rows.envOfC "Hand.put_to_chord" (ag (am (top 7) 5)) s.heap.objs.size f cdv)).units+1<cLine:=by have:=hr.units;omega
 have hv:(A.deeper (PyProof.Rows.envOfC "Hand.put_to_chord" (ag (am (top 7) 5)) s.heap.objs.size f cdv)).units+65<cLine:=by have:=hr.un;omega
 exact⟨_,(aw (bI (i:=2) fR.nd rfl (Or.inl rfl) (cT dn (aR aI (bT (pv 0) rfl) aA (fun _ _=>rfl)) (bN (aa (pv 1) aq))))
   (aw (fG (pv 0) (bN (aa (pv 2) (aa (aR aI (bT (pv 0) rfl) aA (fun _ _=>rfl)) (aa (gG (v:= .ref _) rfl m_CHORD rfl) aq)))) rfl)
   (aC (cR (aQ (cN hu) (gb ["chord"] [] rfl (fY (cx c_chords_over hr (aa (bT (pv 0) rfl) (aa (pv 2) aq)))) (fun _ _ _ _=>(cE (i:=0) (show List.Nodup (["chord"]:List Str) by decide+kernel) rfl (Or.inl rfl))) (fun _ _ _ _=>gu) (fun _ _ _ _=>(dW i9 rfl z_len ug (aa (aR aI (pv 0) aA (fun _ _=>rfl)) aq))) trivial rfl) (et (aa (dW i9 rfl z_len ug (aa (pv 2) aq)) aq)) (bq _)) (aC (cD (iM mt_Hand_decide dS hr (pv 0)))) bU)))),(aH (bF (cZ dz (fm (bv cf_Hand (.tail _ (.tail _ (.head _))) au) (ae az)) (ae (cL (ao af aG)))) aM)
   (aH (eF cf_Hand (.tail _ (.tail _ (.head _))) au (gh (ay (ae af) (ay (fm (bv cf_Hand (.tail _ (.tail _ (.head _))) au) (ae az)) (ay (ae (mM h_CHORD)) aK)))))
   (cH (cS (cZ cO (oO rfl rfl (sX (ir (ay (bv cf_Hand (.head _) au) (ay (ae af) aK)))) aM oI (ae (iO og (ao (aE aN af az) aG)))) (ae (ei (ao (iO og (ao af aG)) aG))))) (b9 (cz cf_Hand au aK)) b8)))⟩
theorem fJ:FnScope ["self","key","layer","meaning","word"] ["self","key"] (ag (am (top 7) 6)):=⟨rfl,rfl,rfl,by decide+kernel,rfl,by decide+kernel,by decide+kernel⟩
theorem pX (F:Fun K "begin" "Hand.begin" (am (top 7) 6) f fd) (cf_Hand:hV K "Hand" ["bed","acts","waiting","once","sent"]) (mt_Hand_stands:bE P w K mg base dR 3 "Hand" "stands" ["self"] (eI K 1 bx)) (mt_Hand_come:bE P w K mg base dR 4 "Hand" "come" ["self","key","act"] (eI K 3 bt)) (c_layer_of:gn P w K mg base 1 "layer_of" ["standing"] 1 cI) (c_looked_up:gn P w K mg base 1 "looked_up" ["bed","layer","key"] 3 eV) (c_chords_over:gn P w K mg base 1 "chords_over" ["bed","keys"] 2 bw) {W_CHORD:Addr} (m_CHORD:mg "CHORD"=some (.ref W_CHORD)) (h_CHORD:∀O H,L3.DV O K H (.ref W_CHORD) (.tuple [(.str "chord")])) {W_NONE:Addr} (m_NONE:mg "NONE"=some (.ref W_NONE)) (h_NONE:∀O H,L3.DV O K H (.ref W_NONE) (.tuple [(.str "none")])):FnOk P w K mg base dR 5 f fd ["self","key"] (eI K 2 dQ):=by
 refine rg (k:=4) (n:=2) (m:=5) (g:=lr) (FF:=dQ) F fJ rfl rfl rfl (fun cdv A outer s H E hr=> ?_)
 have hu:=hr.units
 have hu1:(A.deeper (PyProof.Rows.envOfC "Hand.begin" (ag (am (top 7) 6)) s.heap.objs.size f cdv)).units+1<cLine:=by have:=hr.units;omega
 have hv:(A.deeper (PyProof.Rows.envOfC "Hand.begin" (ag (am (top 7) 6)) s.heap.objs.size f cdv)).units+65<cLine:=by have:=hr.un;omega
 exact⟨_,(aw (bI (i:=2) fJ.nd rfl (Or.inl rfl) (cx c_layer_of hr (aa (iM mt_Hand_stands dS hr (pv 0)) aq)))
   (aw (bI (i:=3) fJ.nd rfl (Or.inl rfl) (cx c_looked_up hr (aa (bT (pv 0) rfl) (aa (pv 2) (aa (pv 1) aq)))))
   (aw (bI (i:=4) fJ.nd rfl (Or.inl rfl) (aR aI (pv 3) aA (fun _ _=>rfl)))
   (aw (cR (aQ (rK hv) (pv 4) (bN (aa bZ (aa bZ aq))) (by with_unfolding_all rfl)) (aC (fG (pv 0) fD rfl)) bU)
   (aC (cR (aQ (cN hu) (pv 4) bZ (bq _)) (aC (fG (pv 0) (bN (aa (bN (aa (pv 1) aq)) (aa aA (aa (pv 3) aq)))) rfl)) (aC (cR (PW.pt (gP (aQ (cN hu) (pv 4) bZ (bq _)) (gP (aQ (cN hu) (pv 2) aA (bq _)) (gc (aQ (gW hu) (cx c_chords_over hr (aa (bT (pv 0) rfl) (aa (bN (aa (pv 1) aq)) aq))) (et aq) (bq _)))))) (aC (fG (pv 0) (bN (aa (bN (aa (pv 1) aq)) (aa aA (aa (gG (v:= .ref _) rfl m_CHORD rfl) aq)))) rfl)) (aC (cR (aQ (cN hu) (pv 4) bZ (bq _)) (aw (cD (gw mt_Hand_come dS hr (pv 0) (aa (pv 1) (aa (gG (v:= .ref _) rfl m_NONE rfl) aq))))
   (aC (fG (pv 0) (aR aI (pv 3) aA (fun _ _=>rfl)) rfl))) (aC (cD (gw mt_Hand_come dS hr (pv 0) (aa (pv 1) (aa (pv 3) aq))))))))))))))),(aH (bF (ir (ay (cz cf_Hand au aK) aK)) aM)
   (aH (bF (ir (ay (bv cf_Hand (.head _) au) (ay (ae af) (ay (ae af) aK)))) aM)
   (aH (bF (ae (aE aN af az)) aM)
   (aH (cH (b0 (bf (aE sC af (cL (ao bX (ao bX aG)))))) (eF cf_Hand (.tail _ (.tail _ (.tail _ (.head _)))) au (ae fC)) b8)
   (cH (b0 (bf (aE cO af bX))) (eF cf_Hand (.tail _ (.tail _ (.head _))) au (ae (cL (ao (cL (ao af aG)) (ao az (ao af aG)))))) (cH (gB (b0 (bf (aE cO af bX))) (gB (b0 (bf (aE cO af az))) (cS (cZ gY (ir (ay (bv cf_Hand (.head _) au) (ay (ae (cL (ao af aG))) aK))) (ae (ei aG)))))) (eF cf_Hand (.tail _ (.tail _ (.head _))) au (ae (cL (ao (cL (ao af aG)) (ao az (ao (mM h_CHORD) aG)))))) (cH (b0 (bf (aE cO af bX))) (aH (b9 (cz cf_Hand au (ay (ae af) (ay (ae (mM h_NONE)) aK))))
   (eF cf_Hand (.tail _ (.tail _ (.tail _ (.head _)))) au (ae (aE aN af az)))) (b9 (cz cf_Hand au (ay (ae af) (ay (ae af) aK)))))))))))⟩
theorem pK:FnScope ["self","key"] ["self","key"] (ag (am (top 7) 3)):=⟨rfl,rfl,rfl,by decide+kernel,rfl,by decide+kernel,by decide+kernel⟩
theorem pW (F:Fun K "press" "Hand.press" (am (top 7) 3) f fd) (cf_Hand:hV K "Hand" ["bed","acts","waiting","once","sent"]) (mt_Hand_is_waiting:bE P w K mg base dR 3 "Hand" "is_waiting" ["self","key"] (eI K 2 bG)) (mt_Hand_makes_chord:bE P w K mg base dR 4 "Hand" "makes_chord" ["self","key"] (eI K 2 cF)) (mt_Hand_put_to_chord:bE P w K mg base dR 6 "Hand" "put_to_chord" ["self","key"] (eI K 2 cA)) (mt_Hand_decide:bE P w K mg base dR 5 "Hand" "decide" ["self"] (eI K 1 bO)) (mt_Hand_begin:bE P w K mg base dR 5 "Hand" "begin" ["self","key"] (eI K 2 dQ)):FnOk P w K mg base dR 7 f fd ["self","key"] (eI K 2 eD):=by
 refine rg (k:=6) (n:=2) (m:=2) (g:=kP) (FF:=eD) F pK rfl rfl rfl (fun cdv A outer s H E hr=> ?_)
 have hu:=hr.units
 have hu1:(A.deeper (PyProof.Rows.envOfC "Hand.press" (ag (am (top 7) 3)) s.heap.objs.size f cdv)).units+1<cLine:=by have:=hr.units;omega
 have hv:(A.deeper (PyProof.Rows.envOfC "Hand.press" (ag (am (top 7) 3)) s.heap.objs.size f cdv)).units+65<cLine:=by have:=hr.un;omega
 exact⟨_,(aw (cR (PW.pt (oQ (rG (vq hu1 (pv 1) (bT (pv 0) rfl)) (by with_unfolding_all rfl)) (tt (jl (gw mt_Hand_is_waiting dS hr (pv 0) (aa (pv 1) aq)))))) (aC tG) bU)
   (aw (cR (jl (gw mt_Hand_makes_chord dS hr (pv 0) (aa (pv 1) aq))) (aw (cD (gw mt_Hand_put_to_chord dS hr (pv 0) (aa (pv 1) aq)))
   (aC tG)) bU)
   (aw (cR (aQ rj (bT (pv 0) rfl) fD (bq _)) (aC (cD (iM mt_Hand_decide dS hr (pv 0)))) bU)
   (aC (cD (gw mt_Hand_begin dS hr (pv 0) (aa (pv 1) aq))))))),(aH (cH (kz (kZ (sE (ae af) (bv cf_Hand (.tail _ (.head _)) au))) (kZ (cz cf_Hand au (ay (ae af) aK)))) o0 b8)
   (aH (cH (kZ (cz cf_Hand au (ay (ae af) aK))) (aH (b9 (cz cf_Hand au (ay (ae af) aK)))
   o0) b8)
   (aH (cH (cS (cZ sj (bv cf_Hand (.tail _ (.tail _ (.head _))) au) (ae fC))) (b9 (cz cf_Hand au aK)) b8)
   (b9 (cz cf_Hand au (ay (ae af) aK))))))⟩
theorem jb:FnScope ["self","key","what"] ["self","key"] (ag (am (top 7) 8)):=⟨rfl,rfl,rfl,by decide+kernel,rfl,by decide+kernel,by decide+kernel⟩
theorem pz (F:Fun K "settle" "Hand.settle" (am (top 7) 8) f fd) (cf_Hand:hV K "Hand" ["bed","acts","waiting","once","sent"]) (mt_Hand_decide:bE P w K mg base dR 5 "Hand" "decide" ["self"] (eI K 1 bO)) (mt_Hand_come:bE P w K mg base dR 4 "Hand" "come" ["self","key","act"] (eI K 3 bt)) {W_CHORD:Addr} (m_CHORD:mg "CHORD"=some (.ref W_CHORD)) (h_CHORD:∀O H,L3.DV O K H (.ref W_CHORD) (.tuple [(.str "chord")])):FnOk P w K mg base dR 6 f fd ["self","key"] (eI K 2 dX):=by
 refine rg (k:=5) (n:=2) (m:=3) (g:=j4) (FF:=dX) F jb rfl rfl rfl (fun cdv A outer s H E hr=> ?_)
 have hu:=hr.units
 have hu1:(A.deeper (PyProof.Rows.envOfC "Hand.settle" (ag (am (top 7) 8)) s.heap.objs.size f cdv)).units+1<cLine:=by have:=hr.units;omega
 have hv:(A.deeper (PyProof.Rows.envOfC "Hand.settle" (ag (am (top 7) 8)) s.heap.objs.size f cdv)).units+65<cLine:=by have:=hr.un;omega
 exact⟨_,(aw (bI (i:=2) jb.nd rfl (Or.inl rfl) (aR aI (bT (pv 0) rfl) aA (fun _ _=>rfl)))
   (aC (cR (aQ (cN hu) (pv 2) (gG (v:= .ref _) rfl m_CHORD rfl) (bq _)) (aC (cD (iM mt_Hand_decide dS hr (pv 0)))) (aw (fG (pv 0) fD rfl)
   (aC (cD (gw mt_Hand_come dS hr (pv 0) (aa (pv 1) (aa (bN (aa bZ (aa (aR aI (pv 2) aA (fun _ _=>rfl)) aq))) aq))))))))),(aH (bF (fm (bv cf_Hand (.tail _ (.tail _ (.head _))) au) (ae az)) aM)
   (cH (b0 (bf (aE cO af (mM h_CHORD)))) (b9 (cz cf_Hand au aK)) (aH (eF cf_Hand (.tail _ (.tail _ (.head _))) au (ae fC))
   (b9 (cz cf_Hand au (ay (ae af) (ay (ae (cL (ao bX (ao (aE aN af az) aG)))) aK)))))))⟩
theorem so:FnScope ["self","key"] ["self","key"] (ag (am (top 7) 7)):=⟨rfl,rfl,rfl,by decide+kernel,rfl,by decide+kernel,by decide+kernel⟩
theorem sM (F:Fun K "lift" "Hand.lift" (am (top 7) 7) f fd) (cf_Hand:hV K "Hand" ["bed","acts","waiting","once","sent"]) (mt_Hand_is_waiting:bE P w K mg base dR 3 "Hand" "is_waiting" ["self","key"] (eI K 2 bG)) (mt_Hand_settle:bE P w K mg base dR 6 "Hand" "settle" ["self","key"] (eI K 2 dX)) (mt_Hand_go:bE P w K mg base dR 4 "Hand" "go" ["self","key"] (eI K 2 fA)):FnOk P w K mg base dR 7 f fd ["self","key"] (eI K 2 eU):=by
 refine rg (k:=6) (n:=2) (m:=2) (g:=md) (FF:=eU) F so rfl rfl rfl (fun cdv A outer s H E hr=> ?_)
 have hu:=hr.units
 have hu1:(A.deeper (PyProof.Rows.envOfC "Hand.lift" (ag (am (top 7) 7)) s.heap.objs.size f cdv)).units+1<cLine:=by have:=hr.units;omega
 have hv:(A.deeper (PyProof.Rows.envOfC "Hand.lift" (ag (am (top 7) 7)) s.heap.objs.size f cdv)).units+65<cLine:=by have:=hr.un;omega
 exact⟨_,(aw (cR (jl (gw mt_Hand_is_waiting dS hr (pv 0) (aa (pv 1) aq))) (aC (cD (gw mt_Hand_settle dS hr (pv 0) (aa (pv 1) aq)))) bU)
   (aC (cR (rG (vq hu1 (pv 1) (bT (pv 0) rfl)) (by with_unfolding_all rfl)) (aC (cD (gw mt_Hand_go dS hr (pv 0) (aa (pv 1) aq)))) bU))),(aH (cH (kZ (cz cf_Hand au (ay (ae af) aK))) (b9 (cz cf_Hand au (ay (ae af) aK))) b8)
   (cH (kZ (sE (ae af) (bv cf_Hand (.tail _ (.head _)) au))) (b9 (cz cf_Hand au (ay (ae af) aK))) b8))⟩
theorem iI:FnScope ["self","age"] ["self"] (ag (am (top 7) 9)):=⟨rfl,rfl,rfl,by decide+kernel,rfl,by decide+kernel,by decide+kernel⟩
theorem mO (F:Fun K "wait_on" "Hand.wait_on" (am (top 7) 9) f fd) (cf_Hand:hV K "Hand" ["bed","acts","waiting","once","sent"]) (mt_Hand_decide:bE P w K mg base dR 5 "Hand" "decide" ["self"] (eI K 1 bO)):FnOk P w K mg base dR 6 f fd ["self"] (eI K 1 dC):=by
 refine rg (k:=5) (n:=1) (m:=2) (g:=iW) (FF:=dC) F iI rfl rfl rfl (fun cdv A outer s H E hr=> ?_)
 have hu:=hr.units
 have hu1:(A.deeper (PyProof.Rows.envOfC "Hand.wait_on" (ag (am (top 7) 9)) s.heap.objs.size f cdv)).units+1<cLine:=by have:=hr.units;omega
 have hv:(A.deeper (PyProof.Rows.envOfC "Hand.wait_on" (ag (am (top 7) 9)) s.heap.objs.size f cdv)).units+65<cLine:=by have:=hr.un;omega
 exact⟨_,(aw (cR (aQ BL (bT (pv 0) rfl) fD (bq _)) (aC tG) bU)
   (aw (bI (i:=1) iI.nd rfl (Or.inl rfl) (cT dn (aR aI (bT (pv 0) rfl) aA (fun _ _=>rfl)) aA))
   (aw (fG (pv 0) (bN (aa (aR aI (bT (pv 0) rfl) aA (fun _ _=>rfl)) (aa (pv 1) (aa (aR aI (bT (pv 0) rfl) aA (fun _ _=>rfl)) aq)))) rfl)
   (aC (cR (aQ (cN hu) (pv 1) (aR aI (bT (pv 0) rfl) aA (fun _ _=>rfl)) (bq _)) (aC (cD (iM mt_Hand_decide dS hr (pv 0)))) bU))))),(aH (cH (cS (cZ xC (bv cf_Hand (.tail _ (.tail _ (.head _))) au) (ae fC))) o0 b8)
   (aH (bF (cZ dz (fm (bv cf_Hand (.tail _ (.tail _ (.head _))) au) (ae az)) (ae az)) aM)
   (aH (eF cf_Hand (.tail _ (.tail _ (.head _))) au (gh (ay (fm (bv cf_Hand (.tail _ (.tail _ (.head _))) au) (ae az)) (ay (ae af) (ay (fm (bv cf_Hand (.tail _ (.tail _ (.head _))) au) (ae az)) aK)))))
   (cH (cS (cZ cO (ae af) (fm (bv cf_Hand (.head _) au) (ae az)))) (b9 (cz cf_Hand au aK)) b8))))⟩
theorem xk:FnScope ["bed","standing","event","hand"] ["bed","standing","event"] (ag (top 5)):=⟨rfl,rfl,rfl,by decide+kernel,rfl,by decide+kernel,by decide+kernel⟩
theorem Dw (F:Fun K "step" "step" (top 5) f fd) (cf_Hand:hV K "Hand" ["bed","acts","waiting","once","sent"]) (mk_Hand:zt P w K mg base dR 3 "Hand" ["self","bed","standing"] (eI K 3 cQ)) (mt_Hand_wait_on:bE P w K mg base dR 6 "Hand" "wait_on" ["self"] (eI K 1 dC)) (mt_Hand_press:bE P w K mg base dR 7 "Hand" "press" ["self","key"] (eI K 2 eD)) (mt_Hand_lift:bE P w K mg base dR 7 "Hand" "lift" ["self","key"] (eI K 2 eU)) (mt_Hand_stands:bE P w K mg base dR 3 "Hand" "stands" ["self"] (eI K 1 bx)):FnOk P w K mg base dR 8 f fd ["bed","standing","event"] (eI K 3 STP.gS):=by
 refine rg (k:=7) (n:=3) (m:=4) (g:=AM) (FF:=STP.gS) F xk rfl rfl rfl (fun cdv A outer s H E hr=> ?_)
 have hu:=hr.units
 have hu1:(A.deeper (PyProof.Rows.envOfC "step" (ag (top 5)) s.heap.objs.size f cdv)).units+1<cLine:=by have:=hr.units;omega
 have hv:(A.deeper (PyProof.Rows.envOfC "step" (ag (top 5)) s.heap.objs.size f cdv)).units+65<cLine:=by have:=hr.un;omega
 exact⟨_,(aw (bI (i:=3) xk.nd rfl (Or.inl rfl) (GF mk_Hand dS hr (aa (pv 0) (aa (pv 1) aq))))
   (aw (cR (aQ (cN hu) (aR aI (pv 2) aA (fun _ _=>rfl)) bZ (bq _)) (aC (cD (iM mt_Hand_wait_on dS hr (pv 3)))) (aC (cR (aQ (cN hu) (aR aI (pv 2) aA (fun _ _=>rfl)) bZ (bq _)) (aC (cD (gw mt_Hand_press dS hr (pv 3) (aa (aR aI (pv 2) aA (fun _ _=>rfl)) aq)))) (aC (cD (gw mt_Hand_lift dS hr (pv 3) (aa (aR aI (pv 2) aA (fun _ _=>rfl)) aq)))))))
   (aC (b4 (bN (aa (bT (pv 3) rfl) (aa (iM mt_Hand_stands dS hr (pv 3)) aq))))))),(aH (bF (Cn cf_Hand (ay (ae af) (ay (ae af) aK))) aM)
   (aH (cH (b0 (bf (aE cO (aE aN af az) bX))) (b9 (cz cf_Hand au aK)) (cH (b0 (bf (aE cO (aE aN af az) bX))) (b9 (cz cf_Hand au (ay (ae (aE aN af az)) aK))) (b9 (cz cf_Hand au (ay (ae (aE aN af az)) aK)))))
   (dw (gh (ay (bv cf_Hand (.tail _ (.tail _ (.tail _ (.tail _ (.head _))))) au) (ay (cz cf_Hand au aK) aK))))))⟩
theorem jO:FnScope ["bed","events","standing","all_sent","event","answer"] ["bed","events"] (ag (top 6)):=⟨rfl,rfl,rfl,by decide+kernel,rfl,by decide+kernel,by decide+kernel⟩
theorem CK (F:Fun K "play" "play" (top 6) f fd) (c_step:pT P w K mg base 8 "step" ["bed","standing","event"] 3 STP.gS) {W_AT_REST:Addr} (m_AT_REST:mg "AT_REST"=some (.ref W_AT_REST)) (h_AT_REST:∀O H,L3.DV O K H (.ref W_AT_REST) (.tuple [(.tuple []),.none,.none])):FnOk P w K mg base dR 9 f fd ["bed","events"] (eI K 2 jf):=by
 refine rg (k:=8) (n:=2) (m:=6) (g:=wa) (FF:=jf) F jO rfl rfl rfl (fun cdv A outer s H E hr=> ?_)
 have hu:=hr.units
 have hu1:(A.deeper (PyProof.Rows.envOfC "play" (ag (top 6)) s.heap.objs.size f cdv)).units+1<cLine:=by have:=hr.units;omega
 have hv:(A.deeper (PyProof.Rows.envOfC "play" (ag (top 6)) s.heap.objs.size f cdv)).units+65<cLine:=by have:=hr.un;omega
 exact⟨_,(aw (bI (i:=2) jO.nd rfl (Or.inl rfl) (gG (v:= .ref _) rfl m_AT_REST rfl))
   (aw (bI (i:=3) jO.nd rfl (Or.inl rfl) (et aq))
   (aw (lw PassesOwn.never rfl (fY (pv 1)) (cE (i:=4) jO.nd rfl (Or.inl rfl)) (aw (bI (i:=5) jO.nd rfl (Or.inl rfl) (cx c_step hr (aa (pv 0) (aa (pv 2) (aa (pv 4) aq)))))
   (aw (cD (oa PySem.F.plainAttrs_list PySem.F.slot_list_append PySem.F.type_list_append eS (pv 3) (aa (aR aI (pv 5) aA (fun _ _=>rfl)) aq)))
   (aC (bI (i:=2) jO.nd rfl (Or.inl rfl) (aR aI (pv 5) aA (fun _ _=>rfl)))))))
   (aC (b4 (bN (aa (pv 3) (aa (pv 2) aq)))))))),(aH (bF (ae (mM h_AT_REST)) aM)
   (aH (bF (ae (ei aG)) aM)
   (aH (tH (n9 (iy af)) aM (aH (bF (ni (jD (ay (ae af) (ay (ae af) (ay (ae af) aK))))) aM)
   (aH (b9 (kX au (ae (aE aN af az))))
   (bF (ae (aE aN af az)) aM))))
   (dw (gh (ay au (ay (ae af) aK)))))))⟩
theorem pY:FnScope ["_law_held"] ["_law_held"] (ag (top 17)):=⟨rfl,rfl,rfl,by decide+kernel,rfl,by decide+kernel,by decide+kernel⟩
theorem pS (F:Fun K "_law_layer" "_law_layer" (top 17) f fd) (z_max:mg "max"=none):FnOk P w K mg base dR 3 f fd ["_law_held"] (eI K 1 de):=by
 refine rg (k:=2) (n:=1) (m:=1) (g:=lg) (FF:=de) F pY rfl rfl rfl (fun cdv A outer s H E hr=> ?_)
 have hu:=hr.units
 have hu1:(A.deeper (PyProof.Rows.envOfC "_law_layer" (ag (top 17)) s.heap.objs.size f cdv)).units+1<cLine:=by have:=hr.units;omega
 have hv:(A.deeper (PyProof.Rows.envOfC "_law_layer" (ag (top 17)) s.heap.objs.size f cdv)).units+65<cLine:=by have:=hr.un;omega
 exact⟨_,(aC (b4 (dW (yx rfl) rfl z_max DY (aa (cT dn (et (aa aA aq)) (Er (gb ["_law_act"] [] rfl (Cu (re PySem.F.plainAttrs_dict PySem.F.slot_dict_values PySem.F.type_dict_values jy (pv 0))) (fun _ _ _ _=>(cE (i:=0) (show List.Nodup (["_law_act"]:List Str) by decide+kernel) rfl (Or.inl rfl))) (fun _ _ _ _=>(oE (aQ (cN hu) (aR aI (pv 0) aA (fun _ _=>rfl)) bZ (bq _)))) (fun _ _ _ _=>(aR aI (pv 0) aA (fun _ _=>rfl))) trivial rfl))) aq)))),(dw (wv BQ (ay (cZ dz (ae (ei (ao az aG))) (y8 rfl rfl au aM (b0 (bf (aE cO (aE aN af az) bX))) (ae (aE aN af az)))) aK)))⟩
theorem ef:FnScope ["_law_bed_here","_law_held","_law_event","_law_word","_law_key","_law_act","_law_others"] ["_law_bed_here","_law_held","_law_event"] (ag (top 18)):=⟨rfl,rfl,rfl,by decide+kernel,rfl,by decide+kernel,by decide+kernel⟩
theorem tN (F:Fun K "_law_due" "_law_due" (top 18) f fd) (c__law_layer:pT P w K mg base 3 "_law_layer" ["_law_held"] 1 de) (z_list:mg "list"=none):FnOk P w K mg base dR 4 f fd ["_law_bed_here","_law_held","_law_event"] (eI K 3 fF):=by
 refine rg (k:=3) (n:=3) (m:=7) (g:=ku) (FF:=fF) F ef rfl rfl rfl (fun cdv A outer s H E hr=> ?_)
 have hu:=hr.units
 have hu1:(A.deeper (PyProof.Rows.envOfC "_law_due" (ag (top 18)) s.heap.objs.size f cdv)).units+1<cLine:=by have:=hr.units;omega
 have hv:(A.deeper (PyProof.Rows.envOfC "_law_due" (ag (top 18)) s.heap.objs.size f cdv)).units+65<cLine:=by have:=hr.un;omega
 exact⟨_,(aw (Bi (pv 2) (rp rfl (fO (cE (i:=3) ef.nd rfl (Or.inl rfl)) (fO (cE (i:=4) ef.nd rfl (Or.inl rfl)) nh))))
   (aw (cR (PW.pt (gP (aQ (cN hu) (pv 3) bZ (bq _)) (gc (rG (zb hu1 (pv 4) (pv 1)) (by with_unfolding_all rfl))))) (aw (bI (i:=5) ef.nd rfl (Or.inl rfl) (aR aI (aR aI (aR aI (pv 0) aA (fun _ _=>rfl)) (cx c__law_layer hr (aa (pv 1) aq)) (fun _ _=>rfl)) (pv 4) (fun _ _=>rfl)))
   (aw (cR (aQ (cN hu) (aR aI (pv 5) aA (fun _ _=>rfl)) bZ (bq _)) (aC (bI (i:=5) ef.nd rfl (Or.inl rfl) (aR aI (aR aI (aR aI (pv 0) aA (fun _ _=>rfl)) aA (fun _ _=>rfl)) (pv 4) (fun _ _=>rfl)))) bU)
   (aw (bI (i:=6) ef.nd rfl (Or.inl rfl) (eB (j9 rfl) rfl z_list nS (aa (re PySem.F.plainAttrs_dict PySem.F.slot_dict_values PySem.F.type_dict_values jy (pv 1)) aq)))
   (aw (xw hu1 (pv 1) (pv 4) (pv 5) rfl)
   (aC (cR (PW.pt (gP (aQ (cN hu) (aR aI (pv 5) aA (fun _ _=>rfl)) bZ (bq _)) (gc (aQ (rK hv) (pv 5) (pv 6) (by with_unfolding_all rfl))))) (aC (b4 (et (aa (bN (aa (aR aI (pv 5) aA (fun _ _=>rfl)) (aa bZ aq))) aq)))) bU)))))) (aC (cR (PW.pt (gP (aQ (cN hu) (pv 3) bZ (bq _)) (gc (rG (vq hu1 (pv 4) (pv 1)) (by with_unfolding_all rfl))))) (aw (bI (i:=5) ef.nd rfl (Or.inl rfl) (u7 (pv 1) (pv 4) ⟨rfl,rfl,rfl,rfl⟩))
   (aC (cR (PW.pt (gP (aQ (cN hu) (aR aI (pv 5) aA (fun _ _=>rfl)) bZ (bq _)) (gc (aQ (rK hv) (pv 5) (eB (j9 rfl) rfl z_list nS (aa (re PySem.F.plainAttrs_dict PySem.F.slot_dict_values PySem.F.type_dict_values jy (pv 1)) aq)) (by with_unfolding_all rfl))))) (aC (b4 (et (aa (bN (aa (aR aI (pv 5) aA (fun _ _=>rfl)) (aa bZ aq))) aq)))) bU))) bU)))
   (aC (b4 (et aq))))),(aH (bF (ae af) (rN (g7 aM (g7 aM rC))))
   (aH (cH (gB (b0 (bf (aE cO af bX))) (kZ (Af (ae af) au))) (aH (bF (fm (fm (ae (aE aN af az)) (lN (ay au aK))) (ae af)) aM)
   (aH (cH (b0 (bf (aE cO (aE aN af az) bX))) (bF (ae (aE aN (aE aN (aE aN af az) az) af)) aM) b8)
   (aH (bF (oS au) aM)
   (aH (tO au (ae af) (ae af))
   (cH (gB (b0 (bf (aE cO (aE aN af az) bX))) (cS (cZ sC (ae af) au))) (dw (ae (ei (ao (cL (ao (aE aN af az) (ao bX aG))) aG)))) b8))))) (cH (gB (b0 (bf (aE cO af bX))) (kZ (sE (ae af) au))) (aH (bF (uM au (ae af)) aM)
   (cH (gB (b0 (bf (aE cO (aE aN af az) bX))) (cS (cZ sC (ae af) (oS au)))) (dw (ae (ei (ao (cL (ao (aE aN af az) (ao bX aG))) aG)))) b8)) b8))
   (dw (ae (ei aG)))))⟩
theorem fW:FnScope ["_law_script","_law_bed_here","_law_events_here","_law_standing","_law_held","_law_sent","_law_event","_law_due_here","_law_found","_law_rows","_law_behind"] ["_law_script"] (ag (top 19)):=⟨rfl,rfl,rfl,by decide+kernel,rfl,by decide+kernel,by decide+kernel⟩
theorem E2 (F:Fun K "law" "law" (top 19) f fd) (c__law_due:pT P w K mg base 4 "_law_due" ["_law_bed_here","_law_held","_law_event"] 3 fF) (c_step:pT P w K mg base 8 "step" ["bed","standing","event"] 3 STP.gS) (c__law_layer:pT P w K mg base 3 "_law_layer" ["_law_held"] 1 de) (c_play:pT P w K mg base 9 "play" ["bed","events"] 2 jf) (c__law_bed:gn P w K mg base 3 "_law_bed" ["_law_script"] 1 fE) (c__law_events:gn P w K mg base 2 "_law_events" ["_law_script","_law_at","_law_keys"] 3 dY) (c_layer_of:gn P w K mg base 1 "layer_of" ["standing"] 1 cI) (z_isinstance:mg "isinstance"=none) (z_tuple:mg "tuple"=none) (z_len:mg "len"=none) (z_list:mg "list"=none) (z_sorted:mg "sorted"=none):FnOk P w K mg base dR 10 f fd ["_law_script"] (eI K 1 F_law):=by
 refine rg (k:=9) (n:=1) (m:=11) (g:=AE) (FF:=F_law) F fW rfl rfl rfl (fun cdv A outer s H E hr=> ?_)
 have hu:=hr.units
 have hu1:(A.deeper (PyProof.Rows.envOfC "law" (ag (top 19)) s.heap.objs.size f cdv)).units+1<cLine:=by have:=hr.units;omega
 have hv:(A.deeper (PyProof.Rows.envOfC "law" (ag (top 19)) s.heap.objs.size f cdv)).units+65<cLine:=by have:=hr.un;omega
 exact⟨_,(aw (bI (i:=1) fW.nd rfl (Or.inl rfl) (cx c__law_bed hr (aa (pv 0) aq)))
   (aw (bI (i:=2) fW.nd rfl (Or.inl rfl) (cx c__law_events hr (aa (pv 0) (aa aA (aa (aR aI (pv 1) aA (fun _ _=>rfl)) aq)))))
   (aw (bI (i:=3) fW.nd rfl (Or.inl rfl) (bN (aa (bN aq) (aa fD (aa fD aq)))))
   (aw (bI (i:=4) fW.nd rfl (Or.inr rfl) Al)
   (aw (bI (i:=5) fW.nd rfl (Or.inl rfl) (et aq))
   (aw (lw PassesOwn.never rfl (fY (pv 2)) (cE (i:=6) fW.nd rfl (Or.inl rfl)) (aw (bI (i:=7) fW.nd rfl (Or.inl rfl) (cx c__law_due hr (aa (pv 1) (aa (pv 4) (aa (pv 6) aq)))))
   (aw (bI (i:=8) fW.nd rfl (Or.inl rfl) (cx c_step hr (aa (pv 1) (aa (pv 3) (aa (pv 6) aq)))))
   (aw (cR (PW.pt (oQ (sg (jl (dW rb rfl z_isinstance kJ (aa (pv 8) (aa (xD (v:= .ty "tuple") rfl z_tuple kO rfl) aq))))) (oQ (aQ (gW hu) (dW i9 rfl z_len ug (aa (pv 8) aq)) aA (bq _)) (oQ (sg (jl (dW rb rfl z_isinstance kJ (aa (aR aI (pv 8) aA (fun _ _=>rfl)) (aa (xD (v:= .ty "list") rfl z_list nS rfl) aq))))) (tt (aQ (gW hu) (aR aI (pv 8) aA (fun _ _=>rfl)) (pv 7) (bq _))))))) (aC (b4 tU)) bU)
   (aw (bI (i:=3) fW.nd rfl (Or.inl rfl) (aR aI (pv 8) aA (fun _ _=>rfl)))
   (aw (cR (aQ (gW hu) (pv 3) (bN (aa (eB fK rfl z_tuple kO (aa (gb ["_law_key"] [("_law_held",4)] rfl (fY (dW (pw rfl) rfl z_sorted nI (aa (pv 4) aq))) (fun _ _ _ _=>(cE (i:=0) (show List.Nodup (["_law_key","_law_held"]:List Str) by decide+kernel) rfl (Or.inl rfl))) (fun _ _ _ _=>gu) (fun _ _ _ _=>(bN (aa (pv 0) (aa (xo hu1 (pv 1) (pv 0) (fun _ _=>rfl)) aq)))) ⟨⟨rfl,rfl,Or.inl rfl⟩,trivial⟩ rfl) aq)) (aa fD (aa fD aq)))) (bq _)) (aC (b4 tU)) bU)
   (aw (cR (aQ (gW hu) (cx c_layer_of hr (aa (pv 3) aq)) (cx c__law_layer hr (aa (pv 4) aq)) (bq _)) (aC (b4 tU)) bU)
   (aC (cD (oa PySem.F.plainAttrs_list PySem.F.slot_list_append PySem.F.type_list_append eS (pv 5) (aa (pv 7) aq)))))))))))
   (aw (Bi (cx c_play hr (aa (pv 1) (aa (pv 2) aq))) (rp rfl (fO (cE (i:=9) fW.nd rfl (Or.inl rfl)) (fO (cE (i:=10) fW.nd rfl (Or.inl rfl)) nh))))
   (aw (cR (PW.pt (oQ (aQ (gW hu) (pv 9) (pv 5) (bq _)) (tt (aQ (gW hu) (pv 10) (pv 3) (bq _))))) (aC (b4 tU)) bU)
   (aw (cD (oa PySem.F.plainAttrs_list PySem.F.slot_list_append PySem.F.type_list_append eS (pv 9) (aa (et (aa fD aq)) aq)))
   (aC (b4 (jE (cN hu) (cx c_play hr (aa (pv 1) (aa (pv 2) aq))) (bN (aa (pv 5) (aa (pv 3) aq))) (bq _))))))))))))),(aH (bF (ae (eP (ao af aG))) aM)
   (aH (bF (ni (ae (eP (ao af (ao az (ao (aE aN af az) aG)))))) aM)
   (aH (bF (ae (cL (ao (cL aG) (ao fC (ao fC aG))))) aM)
   (aH (bF BC aM)
   (aH (bF (ae (ei aG)) aM)
   (aH (tH (n9 (iy af)) aM (aH (bF (lN (ay (ae af) (ay au (ay (ae af) aK)))) aM)
   (aH (bF (ni (jD (ay (ae af) (ay (ae af) (ay (ae af) aK))))) aM)
   (aH (cH (kz (b0 (wV (Ao (zq (by simp) af)))) (kz (b0 (bf (aE gY (iO og (ao af aG)) az))) (kz (b0 (wV (Ao (zq (by simp) (aE aN af az))))) (cS (cZ gY (ae (aE aN af az)) au))))) (dw (ae vf)) b8)
   (aH (bF (ae (aE aN af az)) aM)
   (aH (cH (cS (cZ gY (ae af) (gh (ay (wv ld (ay (oO rfl rfl (sX (uu au)) aM oI (gh (ay (ae af) (ay (uw au (ae af)) aK)))) aK)) (ay (ae fC) (ay (ae fC) aK)))))) (dw (ae vf)) b8)
   (aH (cH (cS (cZ gY (ae (eP (ao af aG))) (lN (ay au aK)))) (dw (ae vf)) b8)
   (b9 (kX au au)))))))))
   (aH (bF (jD (ay (ae af) (ay (ae af) aK))) (rN (g7 aM (g7 aM rC))))
   (aH (cH (kz (cS (cZ gY au au)) (b0 (bf (aE gY af af)))) (dw (ae vf)) b8)
   (aH (b9 (kX au (ae (ei (ao fC aG)))))
   (dw (cZ cO (jD (ay (ae af) (ay (ae af) aK))) (gh (ay au (ay (ae af) aK))))))))))))))⟩
end
end K31
namespace K31
open PySem L2 L3 STP
noncomputable def F_lawH:FN:=L10.Hb F_law
theorem all_mk {l:PySem.W.OpenLaw} {w:World} {K:PySem.W.Frag} {h:Heap} {mg:Str→Option Value} {fa:Addr}
  {t_NONE_0:Tok}
  {W_NONE:Addr} {nW_NONE:Nat} {sW_NONE:Array (Option Value)}
  {t_CHORD_0:Tok}
  {W_CHORD:Addr} {nW_CHORD:Nat} {sW_CHORD:Array (Option Value)}
  {W_AT_REST_0:Addr} {nW_AT_REST_0:Nat} {sW_AT_REST_0:Array (Option Value)}
  {W_AT_REST:Addr} {nW_AT_REST:Nat} {sW_AT_REST:Array (Option Value)}
  {f_layer_of:Addr} {od0 an0:Option Addr} {sl0:Array (Option Value)} {oc0 kV0 dc0 pm0 cd0 ct0:Value}
  {f_looked_up:Addr} {od1 an1:Option Addr} {sl1:Array (Option Value)} {oc1 kV1 dc1 pm1 cd1 ct1:Value}
  {f_chords_over:Addr} {od2 an2:Option Addr} {sl2:Array (Option Value)} {oc2 kV2 dc2 pm2 cd2 ct2:Value}
  {f_chord_acts:Addr} {od3 an3:Option Addr} {sl3:Array (Option Value)} {oc3 kV3 dc3 pm3 cd3 ct3:Value}
  {f__law_cell:Addr} {od4 an4:Option Addr} {sl4:Array (Option Value)} {oc4 kV4 dc4 pm4 cd4 ct4:Value}
  {f__law_draw:Addr} {od5 an5:Option Addr} {sl5:Array (Option Value)} {oc5 kV5 dc5 pm5 cd5 ct5:Value}
  {f__law_meaning:Addr} {od6 an6:Option Addr} {sl6:Array (Option Value)} {oc6 kV6 dc6 pm6 cd6 ct6:Value}
  {f__law_bed:Addr} {od7 an7:Option Addr} {sl7:Array (Option Value)} {oc7 kV7 dc7 pm7 cd7 ct7:Value}
  {f__law_events:Addr} {od8 an8:Option Addr} {sl8:Array (Option Value)} {oc8 kV8 dc8 pm8 cd8 ct8:Value}
  {f_step:Addr} {od9 an9:Option Addr} {sl9:Array (Option Value)} {oc9 kV9 dc9 pm9 cd9 ct9:Value}
  {f_play:Addr} {od10 an10:Option Addr} {sl10:Array (Option Value)} {oc10 kV10 dc10 pm10 cd10 ct10:Value}
  {f__law_layer:Addr} {od11 an11:Option Addr} {sl11:Array (Option Value)} {oc11 kV11 dc11 pm11 cd11 ct11:Value}
  {f__law_due:Addr} {od12 an12:Option Addr} {sl12:Array (Option Value)} {oc12 kV12 dc12 pm12 cd12 ct12:Value}
  {f_law:Addr} {od13 an13:Option Addr} {sl13:Array (Option Value)} {oc13 kV13 dc13 pm13 cd13 ct13:Value}
  {C_Hand:Addr}
  {f_Hand___init__:Addr} {od14 an14:Option Addr} {sl14:Array (Option Value)} {oc14 kV14 dc14 pm14 cd14 ct14:Value}
  {f_Hand_stands:Addr} {od15 an15:Option Addr} {sl15:Array (Option Value)} {oc15 kV15 dc15 pm15 cd15 ct15:Value}
  {f_Hand_is_waiting:Addr} {od16 an16:Option Addr} {sl16:Array (Option Value)} {oc16 kV16 dc16 pm16 cd16 ct16:Value}
  {f_Hand_has_act:Addr} {od17 an17:Option Addr} {sl17:Array (Option Value)} {oc17 kV17 dc17 pm17 cd17 ct17:Value}
  {f_Hand_come:Addr} {od18 an18:Option Addr} {sl18:Array (Option Value)} {oc18 kV18 dc18 pm18 cd18 ct18:Value}
  {f_Hand_go:Addr} {od19 an19:Option Addr} {sl19:Array (Option Value)} {oc19 kV19 dc19 pm19 cd19 ct19:Value}
  {f_Hand_decide:Addr} {od20 an20:Option Addr} {sl20:Array (Option Value)} {oc20 kV20 dc20 pm20 cd20 ct20:Value}
  {f_Hand_makes_chord:Addr} {od21 an21:Option Addr} {sl21:Array (Option Value)} {oc21 kV21 dc21 pm21 cd21 ct21:Value}
  {f_Hand_put_to_chord:Addr} {od22 an22:Option Addr} {sl22:Array (Option Value)} {oc22 kV22 dc22 pm22 cd22 ct22:Value}
  {f_Hand_begin:Addr} {od23 an23:Option Addr} {sl23:Array (Option Value)} {oc23 kV23 dc23 pm23 cd23 ct23:Value}
  {f_Hand_press:Addr} {od24 an24:Option Addr} {sl24:Array (Option Value)} {oc24 kV24 dc24 pm24 cd24 ct24:Value}
  {f_Hand_settle:Addr} {od25 an25:Option Addr} {sl25:Array (Option Value)} {oc25 kV25 dc25 pm25 cd25 ct25:Value}
  {f_Hand_lift:Addr} {od26 an26:Option Addr} {sl26:Array (Option Value)} {oc26 kV26 dc26 pm26 cd26 ct26:Value}
  {f_Hand_wait_on:Addr} {od27 an27:Option Addr} {sl27:Array (Option Value)} {oc27 kV27 dc27 pm27 cd27 ct27:Value} (X:K.In h) (G:h.Ns mainGlobals mg) (hfa:mg "law"=some (.ref fa))
  (a_layer_of:PySem.W.nsIn K mainGlobals "layer_of"=some (some (.ref f_layer_of)))
  (l_layer_of:K.lookup f_layer_of=some ⟨oc0,od0,.func (PySem.W.fnOf "layer_of" "layer_of" (bu (top 4)) (a9 (top 4)) (ag (top 4)) .none kV0 dc0 pm0 an0 cd0 ct0),sl0⟩)
  (c_layer_of_:PySem.W.codeIn K cd0 "layer_of"=true)
  (k_layer_of:PySem.W.keepIn K (.ref f_layer_of)=true)
  (a_looked_up:PySem.W.nsIn K mainGlobals "looked_up"=some (some (.ref f_looked_up)))
  (l_looked_up:K.lookup f_looked_up=some ⟨oc1,od1,.func (PySem.W.fnOf "looked_up" "looked_up" (bu (top 8)) (a9 (top 8)) (ag (top 8)) .none kV1 dc1 pm1 an1 cd1 ct1),sl1⟩)
  (c_looked_up_:PySem.W.codeIn K cd1 "looked_up"=true)
  (k_looked_up:PySem.W.keepIn K (.ref f_looked_up)=true)
  (a_chords_over:PySem.W.nsIn K mainGlobals "chords_over"=some (some (.ref f_chords_over)))
  (l_chords_over:K.lookup f_chords_over=some ⟨oc2,od2,.func (PySem.W.fnOf "chords_over" "chords_over" (bu (top 9)) (a9 (top 9)) (ag (top 9)) .none kV2 dc2 pm2 an2 cd2 ct2),sl2⟩)
  (c_chords_over_:PySem.W.codeIn K cd2 "chords_over"=true)
  (k_chords_over:PySem.W.keepIn K (.ref f_chords_over)=true)
  (a_chord_acts:PySem.W.nsIn K mainGlobals "chord_acts"=some (some (.ref f_chord_acts)))
  (l_chord_acts:K.lookup f_chord_acts=some ⟨oc3,od3,.func (PySem.W.fnOf "chord_acts" "chord_acts" (bu (top 10)) (a9 (top 10)) (ag (top 10)) .none kV3 dc3 pm3 an3 cd3 ct3),sl3⟩)
  (c_chord_acts_:PySem.W.codeIn K cd3 "chord_acts"=true)
  (k_chord_acts:PySem.W.keepIn K (.ref f_chord_acts)=true)
  (a__law_cell:PySem.W.nsIn K mainGlobals "_law_cell"=some (some (.ref f__law_cell)))
  (l__law_cell:K.lookup f__law_cell=some ⟨oc4,od4,.func (PySem.W.fnOf "_law_cell" "_law_cell" (bu (top 12)) (a9 (top 12)) (ag (top 12)) .none kV4 dc4 pm4 an4 cd4 ct4),sl4⟩)
  (c__law_cell_:PySem.W.codeIn K cd4 "_law_cell"=true)
  (k__law_cell:PySem.W.keepIn K (.ref f__law_cell)=true)
  (a__law_draw:PySem.W.nsIn K mainGlobals "_law_draw"=some (some (.ref f__law_draw)))
  (l__law_draw:K.lookup f__law_draw=some ⟨oc5,od5,.func (PySem.W.fnOf "_law_draw" "_law_draw" (bu (top 13)) (a9 (top 13)) (ag (top 13)) .none kV5 dc5 pm5 an5 cd5 ct5),sl5⟩)
  (c__law_draw_:PySem.W.codeIn K cd5 "_law_draw"=true)
  (k__law_draw:PySem.W.keepIn K (.ref f__law_draw)=true)
  (a__law_meaning:PySem.W.nsIn K mainGlobals "_law_meaning"=some (some (.ref f__law_meaning)))
  (l__law_meaning:K.lookup f__law_meaning=some ⟨oc6,od6,.func (PySem.W.fnOf "_law_meaning" "_law_meaning" (bu (top 14)) (a9 (top 14)) (ag (top 14)) .none kV6 dc6 pm6 an6 cd6 ct6),sl6⟩)
  (c__law_meaning_:PySem.W.codeIn K cd6 "_law_meaning"=true)
  (k__law_meaning:PySem.W.keepIn K (.ref f__law_meaning)=true)
  (a__law_bed:PySem.W.nsIn K mainGlobals "_law_bed"=some (some (.ref f__law_bed)))
  (l__law_bed:K.lookup f__law_bed=some ⟨oc7,od7,.func (PySem.W.fnOf "_law_bed" "_law_bed" (bu (top 15)) (a9 (top 15)) (ag (top 15)) .none kV7 dc7 pm7 an7 cd7 ct7),sl7⟩)
  (c__law_bed_:PySem.W.codeIn K cd7 "_law_bed"=true)
  (k__law_bed:PySem.W.keepIn K (.ref f__law_bed)=true)
  (a__law_events:PySem.W.nsIn K mainGlobals "_law_events"=some (some (.ref f__law_events)))
  (l__law_events:K.lookup f__law_events=some ⟨oc8,od8,.func (PySem.W.fnOf "_law_events" "_law_events" (bu (top 16)) (a9 (top 16)) (ag (top 16)) .none kV8 dc8 pm8 an8 cd8 ct8),sl8⟩)
  (c__law_events_:PySem.W.codeIn K cd8 "_law_events"=true)
  (k__law_events:PySem.W.keepIn K (.ref f__law_events)=true)
  (a_step:PySem.W.nsIn K mainGlobals "step"=some (some (.ref f_step)))
  (l_step:K.lookup f_step=some ⟨oc9,od9,.func (PySem.W.fnOf "step" "step" (bu (top 5)) (a9 (top 5)) (ag (top 5)) .none kV9 dc9 pm9 an9 cd9 ct9),sl9⟩)
  (c_step_:PySem.W.codeIn K cd9 "step"=true)
  (k_step:PySem.W.keepIn K (.ref f_step)=true)
  (a_play:PySem.W.nsIn K mainGlobals "play"=some (some (.ref f_play)))
  (l_play:K.lookup f_play=some ⟨oc10,od10,.func (PySem.W.fnOf "play" "play" (bu (top 6)) (a9 (top 6)) (ag (top 6)) .none kV10 dc10 pm10 an10 cd10 ct10),sl10⟩)
  (c_play_:PySem.W.codeIn K cd10 "play"=true)
  (k_play:PySem.W.keepIn K (.ref f_play)=true)
  (a__law_layer:PySem.W.nsIn K mainGlobals "_law_layer"=some (some (.ref f__law_layer)))
  (l__law_layer:K.lookup f__law_layer=some ⟨oc11,od11,.func (PySem.W.fnOf "_law_layer" "_law_layer" (bu (top 17)) (a9 (top 17)) (ag (top 17)) .none kV11 dc11 pm11 an11 cd11 ct11),sl11⟩)
  (c__law_layer_:PySem.W.codeIn K cd11 "_law_layer"=true)
  (k__law_layer:PySem.W.keepIn K (.ref f__law_layer)=true)
  (a__law_due:PySem.W.nsIn K mainGlobals "_law_due"=some (some (.ref f__law_due)))
  (l__law_due:K.lookup f__law_due=some ⟨oc12,od12,.func (PySem.W.fnOf "_law_due" "_law_due" (bu (top 18)) (a9 (top 18)) (ag (top 18)) .none kV12 dc12 pm12 an12 cd12 ct12),sl12⟩)
  (c__law_due_:PySem.W.codeIn K cd12 "_law_due"=true)
  (k__law_due:PySem.W.keepIn K (.ref f__law_due)=true)
  (a_law:PySem.W.nsIn K mainGlobals "law"=some (some (.ref f_law)))
  (l_law:K.lookup f_law=some ⟨oc13,od13,.func (PySem.W.fnOf "law" "law" (bu (top 19)) (a9 (top 19)) (ag (top 19)) .none kV13 dc13 pm13 an13 cd13 ct13),sl13⟩)
  (c_law_:PySem.W.codeIn K cd13 "law"=true)
  (k_law:PySem.W.keepIn K (.ref f_law)=true)
  (aC_Hand:PySem.W.nsIn K mainGlobals "Hand"=some (some (.ref C_Hand)))
  (a_Hand___init__:PySem.W.findIn K (.ref C_Hand) "__init__"=some (some (.ref f_Hand___init__)))
  (i_Hand___init__:PySem.W.isFn K (.ref f_Hand___init__)=true)
  (l_Hand___init__:K.lookup f_Hand___init__=some ⟨oc14,od14,.func (PySem.W.fnOf "__init__" "Hand.__init__" (bu (am (top 7) 0)) (a9 (am (top 7) 0)) (ag (am (top 7) 0)) .none kV14 dc14 pm14 an14 cd14 ct14),sl14⟩)
  (c_Hand___init___:PySem.W.codeIn K cd14 "Hand.__init__"=true)
  (k_Hand___init__:PySem.W.keepIn K (.ref f_Hand___init__)=true)
  (a_Hand_stands:PySem.W.findIn K (.ref C_Hand) "stands"=some (some (.ref f_Hand_stands)))
  (i_Hand_stands:PySem.W.isFn K (.ref f_Hand_stands)=true)
  (l_Hand_stands:K.lookup f_Hand_stands=some ⟨oc15,od15,.func (PySem.W.fnOf "stands" "Hand.stands" (bu (am (top 7) 1)) (a9 (am (top 7) 1)) (ag (am (top 7) 1)) .none kV15 dc15 pm15 an15 cd15 ct15),sl15⟩)
  (c_Hand_stands_:PySem.W.codeIn K cd15 "Hand.stands"=true)
  (k_Hand_stands:PySem.W.keepIn K (.ref f_Hand_stands)=true)
  (a_Hand_is_waiting:PySem.W.findIn K (.ref C_Hand) "is_waiting"=some (some (.ref f_Hand_is_waiting)))
  (i_Hand_is_waiting:PySem.W.isFn K (.ref f_Hand_is_waiting)=true)
  (l_Hand_is_waiting:K.lookup f_Hand_is_waiting=some ⟨oc16,od16,.func (PySem.W.fnOf "is_waiting" "Hand.is_waiting" (bu (am (top 7) 2)) (a9 (am (top 7) 2)) (ag (am (top 7) 2)) .none kV16 dc16 pm16 an16 cd16 ct16),sl16⟩)
  (c_Hand_is_waiting_:PySem.W.codeIn K cd16 "Hand.is_waiting"=true)
  (k_Hand_is_waiting:PySem.W.keepIn K (.ref f_Hand_is_waiting)=true)
  (a_Hand_has_act:PySem.W.findIn K (.ref C_Hand) "has_act"=some (some (.ref f_Hand_has_act)))
  (i_Hand_has_act:PySem.W.isFn K (.ref f_Hand_has_act)=true)
  (l_Hand_has_act:K.lookup f_Hand_has_act=some ⟨oc17,od17,.func (PySem.W.fnOf "has_act" "Hand.has_act" (bu (am (top 7) 13)) (a9 (am (top 7) 13)) (ag (am (top 7) 13)) .none kV17 dc17 pm17 an17 cd17 ct17),sl17⟩)
  (c_Hand_has_act_:PySem.W.codeIn K cd17 "Hand.has_act"=true)
  (k_Hand_has_act:PySem.W.keepIn K (.ref f_Hand_has_act)=true)
  (a_Hand_come:PySem.W.findIn K (.ref C_Hand) "come"=some (some (.ref f_Hand_come)))
  (i_Hand_come:PySem.W.isFn K (.ref f_Hand_come)=true)
  (l_Hand_come:K.lookup f_Hand_come=some ⟨oc18,od18,.func (PySem.W.fnOf "come" "Hand.come" (bu (am (top 7) 11)) (a9 (am (top 7) 11)) (ag (am (top 7) 11)) .none kV18 dc18 pm18 an18 cd18 ct18),sl18⟩)
  (c_Hand_come_:PySem.W.codeIn K cd18 "Hand.come"=true)
  (k_Hand_come:PySem.W.keepIn K (.ref f_Hand_come)=true)
  (a_Hand_go:PySem.W.findIn K (.ref C_Hand) "go"=some (some (.ref f_Hand_go)))
  (i_Hand_go:PySem.W.isFn K (.ref f_Hand_go)=true)
  (l_Hand_go:K.lookup f_Hand_go=some ⟨oc19,od19,.func (PySem.W.fnOf "go" "Hand.go" (bu (am (top 7) 12)) (a9 (am (top 7) 12)) (ag (am (top 7) 12)) .none kV19 dc19 pm19 an19 cd19 ct19),sl19⟩)
  (c_Hand_go_:PySem.W.codeIn K cd19 "Hand.go"=true)
  (k_Hand_go:PySem.W.keepIn K (.ref f_Hand_go)=true)
  (a_Hand_decide:PySem.W.findIn K (.ref C_Hand) "decide"=some (some (.ref f_Hand_decide)))
  (i_Hand_decide:PySem.W.isFn K (.ref f_Hand_decide)=true)
  (l_Hand_decide:K.lookup f_Hand_decide=some ⟨oc20,od20,.func (PySem.W.fnOf "decide" "Hand.decide" (bu (am (top 7) 10)) (a9 (am (top 7) 10)) (ag (am (top 7) 10)) .none kV20 dc20 pm20 an20 cd20 ct20),sl20⟩)
  (c_Hand_decide_:PySem.W.codeIn K cd20 "Hand.decide"=true)
  (k_Hand_decide:PySem.W.keepIn K (.ref f_Hand_decide)=true)
  (a_Hand_makes_chord:PySem.W.findIn K (.ref C_Hand) "makes_chord"=some (some (.ref f_Hand_makes_chord)))
  (i_Hand_makes_chord:PySem.W.isFn K (.ref f_Hand_makes_chord)=true)
  (l_Hand_makes_chord:K.lookup f_Hand_makes_chord=some ⟨oc21,od21,.func (PySem.W.fnOf "makes_chord" "Hand.makes_chord" (bu (am (top 7) 4)) (a9 (am (top 7) 4)) (ag (am (top 7) 4)) .none kV21 dc21 pm21 an21 cd21 ct21),sl21⟩)
  (c_Hand_makes_chord_:PySem.W.codeIn K cd21 "Hand.makes_chord"=true)
  (k_Hand_makes_chord:PySem.W.keepIn K (.ref f_Hand_makes_chord)=true)
  (a_Hand_put_to_chord:PySem.W.findIn K (.ref C_Hand) "put_to_chord"=some (some (.ref f_Hand_put_to_chord)))
  (i_Hand_put_to_chord:PySem.W.isFn K (.ref f_Hand_put_to_chord)=true)
  (l_Hand_put_to_chord:K.lookup f_Hand_put_to_chord=some ⟨oc22,od22,.func (PySem.W.fnOf "put_to_chord" "Hand.put_to_chord" (bu (am (top 7) 5)) (a9 (am (top 7) 5)) (ag (am (top 7) 5)) .none kV22 dc22 pm22 an22 cd22 ct22),sl22⟩)
  (c_Hand_put_to_chord_:PySem.W.codeIn K cd22 "Hand.put_to_chord"=true)
  (k_Hand_put_to_chord:PySem.W.keepIn K (.ref f_Hand_put_to_chord)=true)
  (a_Hand_begin:PySem.W.findIn K (.ref C_Hand) "begin"=some (some (.ref f_Hand_begin)))
  (i_Hand_begin:PySem.W.isFn K (.ref f_Hand_begin)=true)
  (l_Hand_begin:K.lookup f_Hand_begin=some ⟨oc23,od23,.func (PySem.W.fnOf "begin" "Hand.begin" (bu (am (top 7) 6)) (a9 (am (top 7) 6)) (ag (am (top 7) 6)) .none kV23 dc23 pm23 an23 cd23 ct23),sl23⟩)
  (c_Hand_begin_:PySem.W.codeIn K cd23 "Hand.begin"=true)
  (k_Hand_begin:PySem.W.keepIn K (.ref f_Hand_begin)=true)
  (a_Hand_press:PySem.W.findIn K (.ref C_Hand) "press"=some (some (.ref f_Hand_press)))
  (i_Hand_press:PySem.W.isFn K (.ref f_Hand_press)=true)
  (l_Hand_press:K.lookup f_Hand_press=some ⟨oc24,od24,.func (PySem.W.fnOf "press" "Hand.press" (bu (am (top 7) 3)) (a9 (am (top 7) 3)) (ag (am (top 7) 3)) .none kV24 dc24 pm24 an24 cd24 ct24),sl24⟩)
  (c_Hand_press_:PySem.W.codeIn K cd24 "Hand.press"=true)
  (k_Hand_press:PySem.W.keepIn K (.ref f_Hand_press)=true)
  (a_Hand_settle:PySem.W.findIn K (.ref C_Hand) "settle"=some (some (.ref f_Hand_settle)))
  (i_Hand_settle:PySem.W.isFn K (.ref f_Hand_settle)=true)
  (l_Hand_settle:K.lookup f_Hand_settle=some ⟨oc25,od25,.func (PySem.W.fnOf "settle" "Hand.settle" (bu (am (top 7) 8)) (a9 (am (top 7) 8)) (ag (am (top 7) 8)) .none kV25 dc25 pm25 an25 cd25 ct25),sl25⟩)
  (c_Hand_settle_:PySem.W.codeIn K cd25 "Hand.settle"=true)
  (k_Hand_settle:PySem.W.keepIn K (.ref f_Hand_settle)=true)
  (a_Hand_lift:PySem.W.findIn K (.ref C_Hand) "lift"=some (some (.ref f_Hand_lift)))
  (i_Hand_lift:PySem.W.isFn K (.ref f_Hand_lift)=true)
  (l_Hand_lift:K.lookup f_Hand_lift=some ⟨oc26,od26,.func (PySem.W.fnOf "lift" "Hand.lift" (bu (am (top 7) 7)) (a9 (am (top 7) 7)) (ag (am (top 7) 7)) .none kV26 dc26 pm26 an26 cd26 ct26),sl26⟩)
  (c_Hand_lift_:PySem.W.codeIn K cd26 "Hand.lift"=true)
  (k_Hand_lift:PySem.W.keepIn K (.ref f_Hand_lift)=true)
  (a_Hand_wait_on:PySem.W.findIn K (.ref C_Hand) "wait_on"=some (some (.ref f_Hand_wait_on)))
  (i_Hand_wait_on:PySem.W.isFn K (.ref f_Hand_wait_on)=true)
  (l_Hand_wait_on:K.lookup f_Hand_wait_on=some ⟨oc27,od27,.func (PySem.W.fnOf "wait_on" "Hand.wait_on" (bu (am (top 7) 9)) (a9 (am (top 7) 9)) (ag (am (top 7) 9)) .none kV27 dc27 pm27 an27 cd27 ct27),sl27⟩)
  (c_Hand_wait_on_:PySem.W.codeIn K cd27 "Hand.wait_on"=true)
  (k_Hand_wait_on:PySem.W.keepIn K (.ref f_Hand_wait_on)=true)
  (pg_Hand:PySem.W.plainGet K C_Hand Str.empty=true)
  (hd_Hand:PySem.W.hasDictIn K C_Hand=true)
  (po_Hand:PySem.W.plainOver K C_Hand=true)
  (sa_Hand:PySem.W.findIn K (.ref C_Hand) "__setattr__"=some (some (.builtin "object.__setattr__")))
  (mkc_Hand:PySem.W.makesIn K C_Hand=true)
  (kc_Hand:PySem.W.keepIn K (.ref C_Hand)=true)
  (n_Hand_bed:PySem.W.findIn K (.ref C_Hand) "bed"=some none)
  (n_Hand_acts:PySem.W.findIn K (.ref C_Hand) "acts"=some none)
  (n_Hand_waiting:PySem.W.findIn K (.ref C_Hand) "waiting"=some none)
  (n_Hand_once:PySem.W.findIn K (.ref C_Hand) "once"=some none)
  (n_Hand_sent:PySem.W.findIn K (.ref C_Hand) "sent"=some none)
  (aW_NONE:PySem.W.nsIn K mainGlobals "NONE"=some (some (.ref W_NONE)))
  (aW_CHORD:PySem.W.nsIn K mainGlobals "CHORD"=some (some (.ref W_CHORD)))
  (aW_AT_REST:PySem.W.nsIn K mainGlobals "AT_REST"=some (some (.ref W_AT_REST)))
  (lW_AT_REST:K.lookup W_AT_REST=some ⟨.type "tuple",none,.seq #[.ref W_AT_REST_0,.none,.none] nW_AT_REST,sW_AT_REST⟩)
  (lW_AT_REST_0:K.lookup W_AT_REST_0=some ⟨.type "tuple",none,.seq #[] nW_AT_REST_0,sW_AT_REST_0⟩)
  (lW_CHORD:K.lookup W_CHORD=some ⟨.type "tuple",none,.seq #[.str "chord" t_CHORD_0] nW_CHORD,sW_CHORD⟩)
  (lW_NONE:K.lookup W_NONE=some ⟨.type "tuple",none,.seq #[.str "none" t_NONE_0] nW_NONE,sW_NONE⟩)
  (y_max:PySem.W.nsIn K mainGlobals "max"=some none)
  (y_all:PySem.W.nsIn K mainGlobals "all"=some none)
  (y_list:PySem.W.nsIn K mainGlobals "list"=some none)
  (y_sorted:PySem.W.nsIn K mainGlobals "sorted"=some none)
  (y_len:PySem.W.nsIn K mainGlobals "len"=some none)
  (y_range:PySem.W.nsIn K mainGlobals "range"=some none)
  (y_tuple:PySem.W.nsIn K mainGlobals "tuple"=some none)
  (y_dict:PySem.W.nsIn K mainGlobals "dict"=some none)
  (y_zip:PySem.W.nsIn K mainGlobals "zip"=some none)
  (y_isinstance:PySem.W.nsIn K mainGlobals "isinstance"=some none):
  ∃fd:FuncData,(∀(s:Shared) (v:Value),BindsTo s fd ⟨[v],[]⟩ [("_law_script",v)])∧∀base:Heap,K.In base→base.Ns mainGlobals mg→FnOk l.prog w K mg base dR 10 fa fd ["_law_script"] (L3.qu K 1 F_lawH):=by
 have e:=hfa.symm.trans (PySem.W.mg_of X G a_law)
 cases e
 have z_max:=PySem.W.mg_none_of X G y_max
 have z_all:=PySem.W.mg_none_of X G y_all
 have z_list:=PySem.W.mg_none_of X G y_list
 have z_sorted:=PySem.W.mg_none_of X G y_sorted
 have z_len:=PySem.W.mg_none_of X G y_len
 have z_range:=PySem.W.mg_none_of X G y_range
 have z_tuple:=PySem.W.mg_none_of X G y_tuple
 have z_dict:=PySem.W.mg_none_of X G y_dict
 have z_zip:=PySem.W.mg_none_of X G y_zip
 have z_isinstance:=PySem.W.mg_none_of X G y_isinstance
 have h_NONE:∀O H,L3.DV O K H (.ref W_NONE) (.tuple [(.str "none")]):=fun O H=> .tup (xs:=[.str "none"]) ⟨.inr ⟨_,_,_,lW_NONE,⟨rfl,rfl⟩,rfl,by show 1≤sizeLine;decide,(.cons ⟨_,rfl⟩ .nil)⟩,fun _=> .inr ⟨_,_,_,lW_NONE,⟨rfl,rfl⟩,rfl,by show 1≤sizeLine;decide,(.cons ⟨_,rfl⟩ .nil)⟩⟩ (.cons (.str _) .nil)
 have h_CHORD:∀O H,L3.DV O K H (.ref W_CHORD) (.tuple [(.str "chord")]):=fun O H=> .tup (xs:=[.str "chord"]) ⟨.inr ⟨_,_,_,lW_CHORD,⟨rfl,rfl⟩,rfl,by show 1≤sizeLine;decide,(.cons ⟨_,rfl⟩ .nil)⟩,fun _=> .inr ⟨_,_,_,lW_CHORD,⟨rfl,rfl⟩,rfl,by show 1≤sizeLine;decide,(.cons ⟨_,rfl⟩ .nil)⟩⟩ (.cons (.str _) .nil)
 have h_AT_REST_0:∀O H,L3.DV O K H (.ref W_AT_REST_0) (.tuple []):=fun O H=> .tup (xs:=[]) ⟨.inr ⟨_,_,_,lW_AT_REST_0,⟨rfl,rfl⟩,rfl,by show 0≤sizeLine;decide,.nil⟩,fun _=> .inr ⟨_,_,_,lW_AT_REST_0,⟨rfl,rfl⟩,rfl,by show 0≤sizeLine;decide,.nil⟩⟩ .nil
 have h_AT_REST:∀O H,L3.DV O K H (.ref W_AT_REST) (.tuple [(.tuple []),.none,.none]):=fun O H=> .tup (xs:=[.ref W_AT_REST_0,.non,.non]) ⟨.inr ⟨_,_,_,lW_AT_REST,⟨rfl,rfl⟩,rfl,by show 3≤sizeLine;decide,(.cons rfl (.cons rfl (.cons rfl .nil)))⟩,fun _=> .inr ⟨_,_,_,lW_AT_REST,⟨rfl,rfl⟩,rfl,by show 3≤sizeLine;decide,(.cons rfl (.cons rfl (.cons rfl .nil)))⟩⟩ (.cons (h_AT_REST_0 O H) (.cons .non (.cons .non .nil)))
 have m_NONE:=PySem.W.mg_of X G aW_NONE
 have m_CHORD:=PySem.W.mg_of X G aW_CHORD
 have m_AT_REST:=PySem.W.mg_of X G aW_AT_REST
 have F_layer_of_:=cC (st:=(top 4)) l_layer_of c_layer_of_ k_layer_of
 have b_layer_of:=F_layer_of_.binds (ps:=["standing"]) fun _ _ _ _ _ _ us hl=>match us,hl with|[_],_=>rfl
 have F_looked_up_:=cC (st:=(top 8)) l_looked_up c_looked_up_ k_looked_up
 have b_looked_up:=F_looked_up_.binds (ps:=["bed","layer","key"]) fun _ _ _ _ _ _ us hl=>match us,hl with|[_,_,_],_=>rfl
 have F_chords_over_:=cC (st:=(top 9)) l_chords_over c_chords_over_ k_chords_over
 have b_chords_over:=F_chords_over_.binds (ps:=["bed","keys"]) fun _ _ _ _ _ _ us hl=>match us,hl with|[_,_],_=>rfl
 have F_chord_acts_:=cC (st:=(top 10)) l_chord_acts c_chord_acts_ k_chord_acts
 have b_chord_acts:=F_chord_acts_.binds (ps:=["bed","keys"]) fun _ _ _ _ _ _ us hl=>match us,hl with|[_,_],_=>rfl
 have F__law_cell_:=cC (st:=(top 12)) l__law_cell c__law_cell_ k__law_cell
 have b__law_cell:=F__law_cell_.binds (ps:=["_law_script","_law_k"]) fun _ _ _ _ _ _ us hl=>match us,hl with|[_,_],_=>rfl
 have F__law_draw_:=cC (st:=(top 13)) l__law_draw c__law_draw_ k__law_draw
 have b__law_draw:=F__law_draw_.binds (ps:=["_law_cell_here","_law_salt","_law_many"]) fun _ _ _ _ _ _ us hl=>match us,hl with|[_,_,_],_=>rfl
 have F__law_meaning_:=cC (st:=(top 14)) l__law_meaning c__law_meaning_ k__law_meaning
 have b__law_meaning:=F__law_meaning_.binds (ps:=["_law_cell_here","_law_layer_here","_law_layers"]) fun _ _ _ _ _ _ us hl=>match us,hl with|[_,_,_],_=>rfl
 have F__law_bed_:=cC (st:=(top 15)) l__law_bed c__law_bed_ k__law_bed
 have b__law_bed:=F__law_bed_.binds (ps:=["_law_script"]) fun _ _ _ _ _ _ us hl=>match us,hl with|[_],_=>rfl
 have F__law_events_:=cC (st:=(top 16)) l__law_events c__law_events_ k__law_events
 have b__law_events:=F__law_events_.binds (ps:=["_law_script","_law_at","_law_keys"]) fun _ _ _ _ _ _ us hl=>match us,hl with|[_,_,_],_=>rfl
 have F_step_:=cC (st:=(top 5)) l_step c_step_ k_step
 have b_step:=F_step_.binds (ps:=["bed","standing","event"]) fun _ _ _ _ _ _ us hl=>match us,hl with|[_,_,_],_=>rfl
 have F_play_:=cC (st:=(top 6)) l_play c_play_ k_play
 have b_play:=F_play_.binds (ps:=["bed","events"]) fun _ _ _ _ _ _ us hl=>match us,hl with|[_,_],_=>rfl
 have F__law_layer_:=cC (st:=(top 17)) l__law_layer c__law_layer_ k__law_layer
 have b__law_layer:=F__law_layer_.binds (ps:=["_law_held"]) fun _ _ _ _ _ _ us hl=>match us,hl with|[_],_=>rfl
 have F__law_due_:=cC (st:=(top 18)) l__law_due c__law_due_ k__law_due
 have b__law_due:=F__law_due_.binds (ps:=["_law_bed_here","_law_held","_law_event"]) fun _ _ _ _ _ _ us hl=>match us,hl with|[_,_,_],_=>rfl
 have F_law_:=cC (st:=(top 19)) l_law c_law_ k_law
 have b_law:=F_law_.binds (ps:=["_law_script"]) fun _ _ _ _ _ _ us hl=>match us,hl with|[_],_=>rfl
 have F_Hand___init___:=cC (st:=(am (top 7) 0)) l_Hand___init__ c_Hand___init___ k_Hand___init__
 have b_Hand___init__:=F_Hand___init___.binds (ps:=["self","bed","standing"]) fun _ _ _ _ _ _ us hl=>match us,hl with|[_,_,_],_=>rfl
 have F_Hand_stands_:=cC (st:=(am (top 7) 1)) l_Hand_stands c_Hand_stands_ k_Hand_stands
 have b_Hand_stands:=F_Hand_stands_.binds (ps:=["self"]) fun _ _ _ _ _ _ us hl=>match us,hl with|[_],_=>rfl
 have F_Hand_is_waiting_:=cC (st:=(am (top 7) 2)) l_Hand_is_waiting c_Hand_is_waiting_ k_Hand_is_waiting
 have b_Hand_is_waiting:=F_Hand_is_waiting_.binds (ps:=["self","key"]) fun _ _ _ _ _ _ us hl=>match us,hl with|[_,_],_=>rfl
 have F_Hand_has_act_:=cC (st:=(am (top 7) 13)) l_Hand_has_act c_Hand_has_act_ k_Hand_has_act
 have b_Hand_has_act:=F_Hand_has_act_.binds (ps:=["self","act"]) fun _ _ _ _ _ _ us hl=>match us,hl with|[_,_],_=>rfl
 have F_Hand_come_:=cC (st:=(am (top 7) 11)) l_Hand_come c_Hand_come_ k_Hand_come
 have b_Hand_come:=F_Hand_come_.binds (ps:=["self","key","act"]) fun _ _ _ _ _ _ us hl=>match us,hl with|[_,_,_],_=>rfl
 have F_Hand_go_:=cC (st:=(am (top 7) 12)) l_Hand_go c_Hand_go_ k_Hand_go
 have b_Hand_go:=F_Hand_go_.binds (ps:=["self","key"]) fun _ _ _ _ _ _ us hl=>match us,hl with|[_,_],_=>rfl
 have F_Hand_decide_:=cC (st:=(am (top 7) 10)) l_Hand_decide c_Hand_decide_ k_Hand_decide
 have b_Hand_decide:=F_Hand_decide_.binds (ps:=["self"]) fun _ _ _ _ _ _ us hl=>match us,hl with|[_],_=>rfl
 have F_Hand_makes_chord_:=cC (st:=(am (top 7) 4)) l_Hand_makes_chord c_Hand_makes_chord_ k_Hand_makes_chord
 have b_Hand_makes_chord:=F_Hand_makes_chord_.binds (ps:=["self","key"]) fun _ _ _ _ _ _ us hl=>match us,hl with|[_,_],_=>rfl
 have F_Hand_put_to_chord_:=cC (st:=(am (top 7) 5)) l_Hand_put_to_chord c_Hand_put_to_chord_ k_Hand_put_to_chord
 have b_Hand_put_to_chord:=F_Hand_put_to_chord_.binds (ps:=["self","key"]) fun _ _ _ _ _ _ us hl=>match us,hl with|[_,_],_=>rfl
 have F_Hand_begin_:=cC (st:=(am (top 7) 6)) l_Hand_begin c_Hand_begin_ k_Hand_begin
 have b_Hand_begin:=F_Hand_begin_.binds (ps:=["self","key"]) fun _ _ _ _ _ _ us hl=>match us,hl with|[_,_],_=>rfl
 have F_Hand_press_:=cC (st:=(am (top 7) 3)) l_Hand_press c_Hand_press_ k_Hand_press
 have b_Hand_press:=F_Hand_press_.binds (ps:=["self","key"]) fun _ _ _ _ _ _ us hl=>match us,hl with|[_,_],_=>rfl
 have F_Hand_settle_:=cC (st:=(am (top 7) 8)) l_Hand_settle c_Hand_settle_ k_Hand_settle
 have b_Hand_settle:=F_Hand_settle_.binds (ps:=["self","key"]) fun _ _ _ _ _ _ us hl=>match us,hl with|[_,_],_=>rfl
 have F_Hand_lift_:=cC (st:=(am (top 7) 7)) l_Hand_lift c_Hand_lift_ k_Hand_lift
 have b_Hand_lift:=F_Hand_lift_.binds (ps:=["self","key"]) fun _ _ _ _ _ _ us hl=>match us,hl with|[_,_],_=>rfl
 have F_Hand_wait_on_:=cC (st:=(am (top 7) 9)) l_Hand_wait_on c_Hand_wait_on_ k_Hand_wait_on
 have b_Hand_wait_on:=F_Hand_wait_on_.binds (ps:=["self"]) fun _ _ _ _ _ _ us hl=>match us,hl with|[_],_=>rfl
 refine⟨PySem.W.fnOf "law" "law" (bu (top 19)) (a9 (top 19)) (ag (top 19)) .none kV13 dc13 pm13 an13 cd13 ct13,fun s v=> .of_eq rfl,fun base _ _=> ?_⟩
 have c_layer_of:L3.gn l.prog w K mg base 1 "layer_of" ["standing"] 1 cI:=⟨f_layer_of,_,uP F_layer_of_ z_max,b_layer_of,k_layer_of,PySem.W.mg_of X G a_layer_of⟩
 have c_looked_up:L3.gn l.prog w K mg base 1 "looked_up" ["bed","layer","key"] 3 eV:=⟨f_looked_up,_,rA F_looked_up_,b_looked_up,k_looked_up,PySem.W.mg_of X G a_looked_up⟩
 have c_chords_over:L3.gn l.prog w K mg base 1 "chords_over" ["bed","keys"] 2 bw:=⟨f_chords_over,_,ox F_chords_over_ z_all,b_chords_over,k_chords_over,PySem.W.mg_of X G a_chords_over⟩
 have c_chord_acts:L3.gn l.prog w K mg base 1 "chord_acts" ["bed","keys"] 2 dN:=⟨f_chord_acts,_,pV F_chord_acts_ z_list z_sorted z_len m_NONE h_NONE,b_chord_acts,k_chord_acts,PySem.W.mg_of X G a_chord_acts⟩
 have c__law_cell:L3.gn l.prog w K mg base 1 "_law_cell" ["_law_script","_law_k"] 2 dI:=⟨f__law_cell,_,sI F__law_cell_ z_len,b__law_cell,k__law_cell,PySem.W.mg_of X G a__law_cell⟩
 have c__law_draw:L3.gn l.prog w K mg base 1 "_law_draw" ["_law_cell_here","_law_salt","_law_many"] 3 bB:=⟨f__law_draw,_,r8 F__law_draw_,b__law_draw,k__law_draw,PySem.W.mg_of X G a__law_draw⟩
 have c__law_meaning:L3.gn l.prog w K mg base 2 "_law_meaning" ["_law_cell_here","_law_layer_here","_law_layers"] 3 cX:=⟨f__law_meaning,_,mF F__law_meaning_ c__law_draw,b__law_meaning,k__law_meaning,PySem.W.mg_of X G a__law_meaning⟩
 have c__law_bed:L3.gn l.prog w K mg base 3 "_law_bed" ["_law_script"] 1 fE:=⟨f__law_bed,_,vd F__law_bed_ c__law_cell c__law_draw c__law_meaning z_range z_tuple,b__law_bed,k__law_bed,PySem.W.mg_of X G a__law_bed⟩
 have c__law_events:L3.gn l.prog w K mg base 2 "_law_events" ["_law_script","_law_at","_law_keys"] 3 dY:=⟨f__law_events,_,pd F__law_events_ c__law_draw,b__law_events,k__law_events,PySem.W.mg_of X G a__law_events⟩
 have T_Hand:Cls K C_Hand:=⟨pg_Hand,hd_Hand,po_Hand,sa_Hand⟩
 have cf_Hand:L10.hV K "Hand" ["bed","acts","waiting","once","sent"]:=⟨C_Hand,aC_Hand,T_Hand,List.forall_mem_cons.mpr ⟨n_Hand_bed,List.forall_mem_cons.mpr ⟨n_Hand_acts,List.forall_mem_cons.mpr ⟨n_Hand_waiting,List.forall_mem_cons.mpr ⟨n_Hand_once,List.forall_mem_cons.mpr ⟨n_Hand_sent,List.forall_mem_nil _⟩⟩⟩⟩⟩⟩
 have mk_Hand:L10.zt l.prog w K mg base dR 3 "Hand" ["self","bed","standing"] (L10.eI K 3 cQ):=⟨C_Hand,f_Hand___init__,_,aC_Hand,PySem.W.mg_of X G aC_Hand,⟨mkc_Hand,a_Hand___init__,i_Hand___init__,kc_Hand⟩,lU (P:=l.prog) (w:=w) (mg:=mg) (base:=base) F_Hand___init___ cf_Hand z_dict,b_Hand___init__⟩
 have mt_Hand_stands:L10.bE l.prog w K mg base dR 3 "Hand" "stands" ["self"] (L10.eI K 1 bx):=⟨C_Hand,f_Hand_stands,_,aC_Hand,T_Hand,⟨a_Hand_stands,i_Hand_stands,k_Hand_stands⟩,nH (P:=l.prog) (w:=w) (mg:=mg) (base:=base) F_Hand_stands_ cf_Hand z_tuple z_sorted,b_Hand_stands⟩
 have mt_Hand_is_waiting:L10.bE l.prog w K mg base dR 3 "Hand" "is_waiting" ["self","key"] (L10.eI K 2 bG):=⟨C_Hand,f_Hand_is_waiting,_,aC_Hand,T_Hand,⟨a_Hand_is_waiting,i_Hand_is_waiting,k_Hand_is_waiting⟩,ko (P:=l.prog) (w:=w) (mg:=mg) (base:=base) F_Hand_is_waiting_ cf_Hand,b_Hand_is_waiting⟩
 have mt_Hand_has_act:L10.bE l.prog w K mg base dR 3 "Hand" "has_act" ["self","act"] (L10.eI K 2 bA):=⟨C_Hand,f_Hand_has_act,_,aC_Hand,T_Hand,⟨a_Hand_has_act,i_Hand_has_act,k_Hand_has_act⟩,mH (P:=l.prog) (w:=w) (mg:=mg) (base:=base) F_Hand_has_act_ cf_Hand z_list,b_Hand_has_act⟩
 have mt_Hand_come:L10.bE l.prog w K mg base dR 4 "Hand" "come" ["self","key","act"] (L10.eI K 3 bt):=⟨C_Hand,f_Hand_come,_,aC_Hand,T_Hand,⟨a_Hand_come,i_Hand_come,k_Hand_come⟩,rD (P:=l.prog) (w:=w) (mg:=mg) (base:=base) F_Hand_come_ cf_Hand mt_Hand_has_act,b_Hand_come⟩
 have mt_Hand_go:L10.bE l.prog w K mg base dR 4 "Hand" "go" ["self","key"] (L10.eI K 2 fA):=⟨C_Hand,f_Hand_go,_,aC_Hand,T_Hand,⟨a_Hand_go,i_Hand_go,k_Hand_go⟩,wr (P:=l.prog) (w:=w) (mg:=mg) (base:=base) F_Hand_go_ cf_Hand mt_Hand_has_act,b_Hand_go⟩
 have mt_Hand_decide:L10.bE l.prog w K mg base dR 5 "Hand" "decide" ["self"] (L10.eI K 1 bO):=⟨C_Hand,f_Hand_decide,_,aC_Hand,T_Hand,⟨a_Hand_decide,i_Hand_decide,k_Hand_decide⟩,oo (P:=l.prog) (w:=w) (mg:=mg) (base:=base) F_Hand_decide_ cf_Hand mt_Hand_come c_chord_acts z_zip m_CHORD h_CHORD,b_Hand_decide⟩
 have mt_Hand_makes_chord:L10.bE l.prog w K mg base dR 4 "Hand" "makes_chord" ["self","key"] (L10.eI K 2 cF):=⟨C_Hand,f_Hand_makes_chord,_,aC_Hand,T_Hand,⟨a_Hand_makes_chord,i_Hand_makes_chord,k_Hand_makes_chord⟩,jS (P:=l.prog) (w:=w) (mg:=mg) (base:=base) F_Hand_makes_chord_ cf_Hand mt_Hand_stands c_layer_of c_chords_over m_CHORD h_CHORD,b_Hand_makes_chord⟩
 have mt_Hand_put_to_chord:L10.bE l.prog w K mg base dR 6 "Hand" "put_to_chord" ["self","key"] (L10.eI K 2 cA):=⟨C_Hand,f_Hand_put_to_chord,_,aC_Hand,T_Hand,⟨a_Hand_put_to_chord,i_Hand_put_to_chord,k_Hand_put_to_chord⟩,i7 (P:=l.prog) (w:=w) (mg:=mg) (base:=base) F_Hand_put_to_chord_ cf_Hand mt_Hand_decide c_chords_over z_len m_CHORD h_CHORD,b_Hand_put_to_chord⟩
 have mt_Hand_begin:L10.bE l.prog w K mg base dR 5 "Hand" "begin" ["self","key"] (L10.eI K 2 dQ):=⟨C_Hand,f_Hand_begin,_,aC_Hand,T_Hand,⟨a_Hand_begin,i_Hand_begin,k_Hand_begin⟩,pX (P:=l.prog) (w:=w) (mg:=mg) (base:=base) F_Hand_begin_ cf_Hand mt_Hand_stands mt_Hand_come c_layer_of c_looked_up c_chords_over m_CHORD h_CHORD m_NONE h_NONE,b_Hand_begin⟩
 have mt_Hand_press:L10.bE l.prog w K mg base dR 7 "Hand" "press" ["self","key"] (L10.eI K 2 eD):=⟨C_Hand,f_Hand_press,_,aC_Hand,T_Hand,⟨a_Hand_press,i_Hand_press,k_Hand_press⟩,pW (P:=l.prog) (w:=w) (mg:=mg) (base:=base) F_Hand_press_ cf_Hand mt_Hand_is_waiting mt_Hand_makes_chord mt_Hand_put_to_chord mt_Hand_decide mt_Hand_begin,b_Hand_press⟩
 have mt_Hand_settle:L10.bE l.prog w K mg base dR 6 "Hand" "settle" ["self","key"] (L10.eI K 2 dX):=⟨C_Hand,f_Hand_settle,_,aC_Hand,T_Hand,⟨a_Hand_settle,i_Hand_settle,k_Hand_settle⟩,pz (P:=l.prog) (w:=w) (mg:=mg) (base:=base) F_Hand_settle_ cf_Hand mt_Hand_decide mt_Hand_come m_CHORD h_CHORD,b_Hand_settle⟩
 have mt_Hand_lift:L10.bE l.prog w K mg base dR 7 "Hand" "lift" ["self","key"] (L10.eI K 2 eU):=⟨C_Hand,f_Hand_lift,_,aC_Hand,T_Hand,⟨a_Hand_lift,i_Hand_lift,k_Hand_lift⟩,sM (P:=l.prog) (w:=w) (mg:=mg) (base:=base) F_Hand_lift_ cf_Hand mt_Hand_is_waiting mt_Hand_settle mt_Hand_go,b_Hand_lift⟩
 have mt_Hand_wait_on:L10.bE l.prog w K mg base dR 6 "Hand" "wait_on" ["self"] (L10.eI K 1 dC):=⟨C_Hand,f_Hand_wait_on,_,aC_Hand,T_Hand,⟨a_Hand_wait_on,i_Hand_wait_on,k_Hand_wait_on⟩,mO (P:=l.prog) (w:=w) (mg:=mg) (base:=base) F_Hand_wait_on_ cf_Hand mt_Hand_decide,b_Hand_wait_on⟩
 have c_step:L10.pT l.prog w K mg base 8 "step" ["bed","standing","event"] 3 STP.gS:=⟨f_step,_,Dw (P:=l.prog) (w:=w) (mg:=mg) (base:=base) F_step_ cf_Hand mk_Hand mt_Hand_wait_on mt_Hand_press mt_Hand_lift mt_Hand_stands,b_step,k_step,PySem.W.mg_of X G a_step⟩
 have c_play:L10.pT l.prog w K mg base 9 "play" ["bed","events"] 2 jf:=⟨f_play,_,CK (P:=l.prog) (w:=w) (mg:=mg) (base:=base) F_play_ c_step m_AT_REST h_AT_REST,b_play,k_play,PySem.W.mg_of X G a_play⟩
 have c__law_layer:L10.pT l.prog w K mg base 3 "_law_layer" ["_law_held"] 1 de:=⟨f__law_layer,_,pS (P:=l.prog) (w:=w) (mg:=mg) (base:=base) F__law_layer_ z_max,b__law_layer,k__law_layer,PySem.W.mg_of X G a__law_layer⟩
 have c__law_due:L10.pT l.prog w K mg base 4 "_law_due" ["_law_bed_here","_law_held","_law_event"] 3 fF:=⟨f__law_due,_,tN (P:=l.prog) (w:=w) (mg:=mg) (base:=base) F__law_due_ c__law_layer z_list,b__law_due,k__law_due,PySem.W.mg_of X G a__law_due⟩
 exact(E2 (P:=l.prog) (w:=w) (mg:=mg) (base:=base) F_law_ c__law_due c_step c__law_layer c_play c__law_bed c__law_events c_layer_of z_isinstance z_tuple z_len z_list z_sorted).imp (fun _ _ _ _ h=>L10.EH h)
end K31
noncomputable def PySem.W.Fast.tw17646420178373912916:Unit:=()
noncomputable def PySem.W.Fast.tw1644502623146556643:Unit:=()
noncomputable def PySem.W.Fast.tw6603663074526853992:Unit:=()
noncomputable def PySem.W.Fast.tw5499572746930422919:Unit:=()
noncomputable def PySem.W.Fast.tw11618344567483263127:Unit:=()
open PySem PySem.W PyProof.Rows
set_option maxRecDepth 100000 in
set_option maxHeartbeats 0 in
theorem PySem.Challenge.cw_chordbed_k31_letters_and_layers_holds : PySem.Challenge.rw_chordbed_k31_letters_and_layers.Holds := by
 w_on;o_law;k_head;(case hw=>w_witness2)
 k_fill
 refine L3.Gv (l:=PySem.Challenge.rw_chordbed_k31_letters_and_layers) (n:=63) (k:=10) (x:= "_law_script") (F:=K31.F_lawH) rfl (by decide) rfl ⟨rfl,by decide,by decide⟩ (fun w h Y=>PySem.W.kIn_of Y) ?F K31.main
 case F=>
  intro w mg fa h KX G hmg
  refine' K31.all_mk KX G hmg ?a_layer_of ?l_layer_of ?c_layer_of_ ?k_layer_of ?a_looked_up ?l_looked_up ?c_looked_up_ ?k_looked_up ?a_chords_over ?l_chords_over ?c_chords_over_ ?k_chords_over ?a_chord_acts ?l_chord_acts ?c_chord_acts_ ?k_chord_acts ?a__law_cell ?l__law_cell ?c__law_cell_ ?k__law_cell ?a__law_draw ?l__law_draw ?c__law_draw_ ?k__law_draw ?a__law_meaning ?l__law_meaning ?c__law_meaning_ ?k__law_meaning ?a__law_bed ?l__law_bed ?c__law_bed_ ?k__law_bed ?a__law_events ?l__law_events ?c__law_events_ ?k__law_events ?a_step ?l_step ?c_step_ ?k_step ?a_play ?l_play ?c_play_ ?k_play ?a__law_layer ?l__law_layer ?c__law_layer_ ?k__law_layer ?a__law_due ?l__law_due ?c__law_due_ ?k__law_due ?a_law ?l_law ?c_law_ ?k_law ?aC_Hand ?a_Hand___init__ ?i_Hand___init__ ?l_Hand___init__ ?c_Hand___init___ ?k_Hand___init__ ?a_Hand_stands ?i_Hand_stands ?l_Hand_stands ?c_Hand_stands_ ?k_Hand_stands ?a_Hand_is_waiting ?i_Hand_is_waiting ?l_Hand_is_waiting ?c_Hand_is_waiting_ ?k_Hand_is_waiting ?a_Hand_has_act ?i_Hand_has_act ?l_Hand_has_act ?c_Hand_has_act_ ?k_Hand_has_act ?a_Hand_come ?i_Hand_come ?l_Hand_come ?c_Hand_come_ ?k_Hand_come ?a_Hand_go ?i_Hand_go ?l_Hand_go ?c_Hand_go_ ?k_Hand_go ?a_Hand_decide ?i_Hand_decide ?l_Hand_decide ?c_Hand_decide_ ?k_Hand_decide ?a_Hand_makes_chord ?i_Hand_makes_chord ?l_Hand_makes_chord ?c_Hand_makes_chord_ ?k_Hand_makes_chord ?a_Hand_put_to_chord ?i_Hand_put_to_chord ?l_Hand_put_to_chord ?c_Hand_put_to_chord_ ?k_Hand_put_to_chord ?a_Hand_begin ?i_Hand_begin ?l_Hand_begin ?c_Hand_begin_ ?k_Hand_begin ?a_Hand_press ?i_Hand_press ?l_Hand_press ?c_Hand_press_ ?k_Hand_press ?a_Hand_settle ?i_Hand_settle ?l_Hand_settle ?c_Hand_settle_ ?k_Hand_settle ?a_Hand_lift ?i_Hand_lift ?l_Hand_lift ?c_Hand_lift_ ?k_Hand_lift ?a_Hand_wait_on ?i_Hand_wait_on ?l_Hand_wait_on ?c_Hand_wait_on_ ?k_Hand_wait_on ?pg_Hand ?hd_Hand ?po_Hand ?sa_Hand ?mkc_Hand ?kc_Hand ?n_Hand_bed ?n_Hand_acts ?n_Hand_waiting ?n_Hand_once ?n_Hand_sent ?aW_NONE ?aW_CHORD ?aW_AT_REST ?lW_AT_REST ?lW_AT_REST_0 ?lW_CHORD ?lW_NONE ?y_max ?y_all ?y_list ?y_sorted ?y_len ?y_range ?y_tuple ?y_dict ?y_zip ?y_isinstance
  (case a_layer_of=>k_is)
  (case l_layer_of=>k_is)
  (case c_layer_of_=>k_is)
  (case k_layer_of=>k_is)
  (case a_looked_up=>k_is)
  (case l_looked_up=>k_is)
  (case c_looked_up_=>k_is)
  (case k_looked_up=>k_is)
  (case a_chords_over=>k_is)
  (case l_chords_over=>k_is)
  (case c_chords_over_=>k_is)
  (case k_chords_over=>k_is)
  (case a_chord_acts=>k_is)
  (case l_chord_acts=>k_is)
  (case c_chord_acts_=>k_is)
  (case k_chord_acts=>k_is)
  (case a__law_cell=>k_is)
  (case l__law_cell=>k_is)
  (case c__law_cell_=>k_is)
  (case k__law_cell=>k_is)
  (case a__law_draw=>k_is)
  (case l__law_draw=>k_is)
  (case c__law_draw_=>k_is)
  (case k__law_draw=>k_is)
  (case a__law_meaning=>k_is)
  (case l__law_meaning=>k_is)
  (case c__law_meaning_=>k_is)
  (case k__law_meaning=>k_is)
  (case a__law_bed=>k_is)
  (case l__law_bed=>k_is)
  (case c__law_bed_=>k_is)
  (case k__law_bed=>k_is)
  (case a__law_events=>k_is)
  (case l__law_events=>k_is)
  (case c__law_events_=>k_is)
  (case k__law_events=>k_is)
  (case a_step=>k_is)
  (case l_step=>k_is)
  (case c_step_=>k_is)
  (case k_step=>k_is)
  (case a_play=>k_is)
  (case l_play=>k_is)
  (case c_play_=>k_is)
  (case k_play=>k_is)
  (case a__law_layer=>k_is)
  (case l__law_layer=>k_is)
  (case c__law_layer_=>k_is)
  (case k__law_layer=>k_is)
  (case a__law_due=>k_is)
  (case l__law_due=>k_is)
  (case c__law_due_=>k_is)
  (case k__law_due=>k_is)
  (case a_law=>k_is)
  (case l_law=>k_is)
  (case c_law_=>k_is)
  (case k_law=>k_is)
  (case aC_Hand=>k_is)
  (case a_Hand___init__=>k_is)
  (case i_Hand___init__=>k_is)
  (case l_Hand___init__=>k_is)
  (case c_Hand___init___=>k_is)
  (case k_Hand___init__=>k_is)
  (case a_Hand_stands=>k_is)
  (case i_Hand_stands=>k_is)
  (case l_Hand_stands=>k_is)
  (case c_Hand_stands_=>k_is)
  (case k_Hand_stands=>k_is)
  (case a_Hand_is_waiting=>k_is)
  (case i_Hand_is_waiting=>k_is)
  (case l_Hand_is_waiting=>k_is)
  (case c_Hand_is_waiting_=>k_is)
  (case k_Hand_is_waiting=>k_is)
  (case a_Hand_has_act=>k_is)
  (case i_Hand_has_act=>k_is)
  (case l_Hand_has_act=>k_is)
  (case c_Hand_has_act_=>k_is)
  (case k_Hand_has_act=>k_is)
  (case a_Hand_come=>k_is)
  (case i_Hand_come=>k_is)
  (case l_Hand_come=>k_is)
  (case c_Hand_come_=>k_is)
  (case k_Hand_come=>k_is)
  (case a_Hand_go=>k_is)
  (case i_Hand_go=>k_is)
  (case l_Hand_go=>k_is)
  (case c_Hand_go_=>k_is)
  (case k_Hand_go=>k_is)
  (case a_Hand_decide=>k_is)
  (case i_Hand_decide=>k_is)
  (case l_Hand_decide=>k_is)
  (case c_Hand_decide_=>k_is)
  (case k_Hand_decide=>k_is)
  (case a_Hand_makes_chord=>k_is)
  (case i_Hand_makes_chord=>k_is)
  (case l_Hand_makes_chord=>k_is)
  (case c_Hand_makes_chord_=>k_is)
  (case k_Hand_makes_chord=>k_is)
  (case a_Hand_put_to_chord=>k_is)
  (case i_Hand_put_to_chord=>k_is)
  (case l_Hand_put_to_chord=>k_is)
  (case c_Hand_put_to_chord_=>k_is)
  (case k_Hand_put_to_chord=>k_is)
  (case a_Hand_begin=>k_is)
  (case i_Hand_begin=>k_is)
  (case l_Hand_begin=>k_is)
  (case c_Hand_begin_=>k_is)
  (case k_Hand_begin=>k_is)
  (case a_Hand_press=>k_is)
  (case i_Hand_press=>k_is)
  (case l_Hand_press=>k_is)
  (case c_Hand_press_=>k_is)
  (case k_Hand_press=>k_is)
  (case a_Hand_settle=>k_is)
  (case i_Hand_settle=>k_is)
  (case l_Hand_settle=>k_is)
  (case c_Hand_settle_=>k_is)
  (case k_Hand_settle=>k_is)
  (case a_Hand_lift=>k_is)
  (case i_Hand_lift=>k_is)
  (case l_Hand_lift=>k_is)
  (case c_Hand_lift_=>k_is)
  (case k_Hand_lift=>k_is)
  (case a_Hand_wait_on=>k_is)
  (case i_Hand_wait_on=>k_is)
  (case l_Hand_wait_on=>k_is)
  (case c_Hand_wait_on_=>k_is)
  (case k_Hand_wait_on=>k_is)
  (case pg_Hand=>k_is)
  (case hd_Hand=>k_is)
  (case po_Hand=>k_is)
  (case sa_Hand=>k_is)
  (case mkc_Hand=>k_is)
  (case kc_Hand=>k_is)
  (case n_Hand_bed=>k_is)
  (case n_Hand_acts=>k_is)
  (case n_Hand_waiting=>k_is)
  (case n_Hand_once=>k_is)
  (case n_Hand_sent=>k_is)
  (case aW_NONE=>k_is)
  (case aW_CHORD=>k_is)
  (case aW_AT_REST=>k_is)
  (case lW_AT_REST=>k_is)
  (case lW_AT_REST_0=>k_is)
  (case lW_CHORD=>k_is)
  (case lW_NONE=>k_is)
  (case y_max=>k_is)
  (case y_all=>k_is)
  (case y_list=>k_is)
  (case y_sorted=>k_is)
  (case y_len=>k_is)
  (case y_range=>k_is)
  (case y_tuple=>k_is)
  (case y_dict=>k_is)
  (case y_zip=>k_is)
  (case y_isinstance=>k_is)
