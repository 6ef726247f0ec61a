import PyProof.Rows.All
import Wide.All
import OpenK.AllK
import Wide.FinOn
import Lean
import PyProof.EqAt
import PyProof.EqKinds
import PyProof.TupleCall
import KE.KIntText
import KE.KRevSl
import PyProof.Rows.SeqMore
import PyProof.WalkInts
import PyProof.Rows.MinMaxN
import PyProof.ExcInit
import OpenK.KMake
import PyProof.InstStoreFacts
import PyProof.FString2
import PyProof.Rows.FStr
import PyProof.Rows.SetFrom
import PyProof.SeqRoads2
import PyProof.RangeFor
import PyProof.WalksMore
import PyProof.StrBlock2
import PyProof.Rows.SortShell
import PyProof.TupleOfSeq
import KE.KDictList
import KE.KDictOf
import PyProof.IsiH_tuple
import PyProof.Rows.RuleN_abs
import PyProof.Rows.Range3
import KE.KRevIter
import PyProof.StrLawsRepr
import PyProof.ReprStr
import PyProof.IsiH_list
import PySem.Challenge.RW_chordbed_k65_whole_no_shorter_twofold
set_option Elab.async false
set_option linter.all false
set_option maxRecDepth 100000
namespace L2
open PySem PySem.Spec PyProof.Rows
noncomputable abbrev Key := Sum Int Str
noncomputable def keyIs : Key → Value → Bool
  | .inl k, v => Value.isInt k v
  | .inr x, v => Value.isStrOf x v
noncomputable def keyH (w : World) : Key → Int
  | .inl k => hashInt k
  | .inr x => hashStr w x
theorem keyIs_shape : ∀ {k : Key} {v : Value}, keyIs k v = true → (∃ i t, k = Sum.inl i ∧ v = Value.int i t) ∨ (∃ x t, k = Sum.inr x ∧ v = Value.str x t)
  | .inl i, v, h => by
    obtain ⟨t, e⟩ := Value.isInt_shape (k := i) (v := v) h
    exact .inl ⟨i, t, rfl, e⟩
  | .inr x, v, h => by
    obtain ⟨t, e⟩ := Value.isStrOf_shape (x := x) (v := v) h
    exact .inr ⟨x, t, rfl, e⟩
theorem keyIs_int (i : Int) (t : Tok) : keyIs (.inl i) (.int i t) = true := by simp [keyIs, Value.isInt]
theorem keyIs_str (x : Str) (t : Tok) : keyIs (.inr x) (.str x t) = true := by simp [keyIs, Value.isStrOf]
theorem key_ll (a b : Int) : decide ((Sum.inl a : Key) = Sum.inl b) = (a == b) := by
  by_cases e : a = b
  · subst e; simp
  · have h : ¬ (Sum.inl a : Key) = Sum.inl b := fun q => e (Sum.inl.inj q)
    rw [decide_eq_false h]
    exact (beq_eq_false_iff_ne.mpr e).symm
theorem key_rr (a b : Str) : decide ((Sum.inr a : Key) = Sum.inr b) = decide (a = b) := by
  by_cases e : a = b
  · subst e; simp
  · have h : ¬ (Sum.inr a : Key) = Sum.inr b := fun q => e (Sum.inr.inj q)
    rw [decide_eq_false h, decide_eq_false e]
theorem key_lr (a : Int) (b : Str) : decide ((Sum.inl a : Key) = Sum.inr b) = false := decide_eq_false (fun q => nomatch q)
theorem key_rl (a : Str) (b : Int) : decide ((Sum.inr a : Key) = Sum.inl b) = false := decide_eq_false (fun q => nomatch q)
noncomputable def mixKind (prog : Program) (w : World) : PySem.KeyKind prog w Key where
  is := keyIs
  hash := keyH w
  inj := fun v a b ha hb => by
    rcases keyIs_shape ha with ⟨i, t, rfl, rfl⟩ | ⟨x, t, rfl, rfl⟩
    · rcases keyIs_shape hb with ⟨j, u, rfl, e⟩ | ⟨y, u, rfl, e⟩
      · injection e with e1 _; rw [e1]
      · exact nomatch e
    · rcases keyIs_shape hb with ⟨j, u, rfl, e⟩ | ⟨y, u, rfl, e⟩
      · exact nomatch e
      · injection e with e1 _; rw [e1]
  byValue := fun k v h => by
    rcases keyIs_shape h with ⟨i, t, rfl, rfl⟩ | ⟨x, t, rfl, rfl⟩ <;> rfl
  pyHash := fun hv h => by
    rcases keyIs_shape hv with ⟨i, t, rfl, rfl⟩ | ⟨x, t, rfl, rfl⟩
    · exact wpAny_pyHash_int h
    · exact wpAny_pyHash_str h
  eqBool := fun hu hv h => by
    rcases keyIs_shape hu with ⟨i, t, rfl, rfl⟩ | ⟨x, t, rfl, rfl⟩
    · rcases keyIs_shape hv with ⟨j, u, rfl, rfl⟩ | ⟨y, u, rfl, rfl⟩
      · rw [key_ll] at h; exact wpAny_eqBool_int h
      · rw [key_lr] at h; exact SeqAt.EqAt.int_str i t y u _ _ _ _ h
    · rcases keyIs_shape hv with ⟨j, u, rfl, rfl⟩ | ⟨y, u, rfl, rfl⟩
      · rw [key_rl] at h; exact SeqAt.EqAt.str_int x t j u _ _ _ _ h
      · rw [key_rr] at h; exact wpAny_eqBool_str h
  «strs» := fun k x t v h => by
    rcases keyIs_shape h with ⟨i, u, rfl, e⟩ | ⟨y, u, rfl, e⟩
    · exact nomatch e
    · injection e with e1 _
      subst e1
      cases v <;> rfl
theorem mixKind_int (prog : Program) (w : World) (i : Int) (t : Tok) : (mixKind prog w).is (.inl i) (.int i t) = true := keyIs_int i t
theorem mixKind_str (prog : Program) (w : World) (x : Str) (t : Tok) : (mixKind prog w).is (.inr x) (.str x t) = true := keyIs_str x t
end L2
namespace L2
open PySem PySem.Spec PyProof.Rows
inductive V where
  | non | bl (b : Bool) | int (i : Int) | str (x : Str) | byt (b : Array UInt8) | flt (b : UInt64) | ref (a : Addr) | ty (n : String)
  deriving DecidableEq
noncomputable def RelV : V → Value → Prop
  | .non, u => u = Value.none
  | .bl b, u => u = Value.bool b
  | .int i, u => ∃ t, u = Value.int i t
  | .str x, u => ∃ t, u = Value.str x t
  | .byt b, u => ∃ t, u = Value.bytes b t
  | .flt b, u => ∃ t, u = Value.float b t
  | .ref a, u => u = Value.ref a
  | .ty n, u => u = Value.type n
noncomputable abbrev Vals : List V → List Value → Prop := Paired RelV
theorem Vals.length {xs : List V} {us : List Value} (r : Vals xs us) : xs.length = us.length := Paired.length r
theorem Vals.get : ∀ {xs : List V} {us : List Value} {i : Nat} {x : V}, Vals xs us → xs[i]? = some x → ∃ u, us[i]? = some u ∧ RelV x u
  | _, _, _, _, .nil, e => by simp at e
  | _, _, 0, _, .cons r _, e => by simp at e; subst e; exact ⟨_, rfl, r⟩
  | _, _, i + 1, x, .cons _ t, e => by
    obtain ⟨u, h1, h2⟩ := Vals.get (i := i) (x := x) t (by simpa using e)
    exact ⟨u, by simpa using h1, h2⟩
theorem Vals.append : ∀ {xs ys : List V} {us ws : List Value}, Vals xs us → Vals ys ws → Vals (xs ++ ys) (us ++ ws)
  | _, _, _, _, .nil, s => s
  | _, _, _, _, .cons r t, s => .cons r (Vals.append t s)
theorem Vals.take : ∀ {xs : List V} {us : List Value} (n : Nat), Vals xs us → Vals (xs.take n) (us.take n)
  | _, _, 0, _ => .nil
  | _, _, _ + 1, .nil => .nil
  | _, _, n + 1, .cons r t => .cons r (Vals.take n t)
theorem Vals.drop : ∀ {xs : List V} {us : List Value} (n : Nat), Vals xs us → Vals (xs.drop n) (us.drop n)
  | _, _, 0, r => r
  | _, _, _ + 1, .nil => .nil
  | _, _, n + 1, .cons _ t => Vals.drop n t
noncomputable def RelO : Option V → Option Value → Prop
  | some v, some u => RelV v u
  | none, none => True
  | _, _ => False
noncomputable def KV {κ : Type} : List (κ × V) → List (κ × Value) → Prop := Paired fun (p : κ × V) (q : κ × Value) => p.1 = q.1 ∧ RelV p.2 q.2
noncomputable def kV : Key → V
  | .inl i => .int i
  | .inr x => .str x
inductive HO where
  | lst (xs : List V)
  | tup (xs : List V)
  | dK (kvs : List (Key × V)) | dT (kvs : List (List Key × V))
  | set (S : Int → Bool) (n : Nat)
  | ins (C dx : Addr) (fs : List (Str × V))
  | own (x : Addr)
  | xd (fs : List (Str × V))
  | met (f x : Addr)
  | rng (lo hi : Int)
  | frz (o : Obj) (u : HO)
  | tbl (ps : Array Value)
  | ext (φ : Heap → Prop)
  | exw (φ : World → Heap → Prop)
noncomputable abbrev Hp := Addr → Option HO
noncomputable def upd (H : Hp) (a : Addr) (o : HO) : Hp := fun b => if b = a then some o else H b
theorem upd_same {H : Hp} {a : Addr} {o : HO} : upd H a o a = some o := by unfold upd; rw [if_pos rfl]
theorem upd_ne {H : Hp} {a b : Addr} {o : HO} (h : b ≠ a) : upd H a o b = H b := by unfold upd; rw [if_neg h]
theorem ne_of_none {H : Hp} {a b : Addr} {o : HO} (h : H a = some o) (h' : H b = none) : a ≠ b := by
  intro e; subst e; rw [h] at h'; cases h'
noncomputable def TupX (h : Heap) (a : Addr) (items : Array Value) : Prop := ∃ o, h.get? a = some o ∧ (o.cls = .type "tuple" ∧ ∃ n, o.data = .seq items n) ∧ o.dict = none
theorem TupX.tup {h : Heap} {a : Addr} {items : Array Value} (x : TupX h a items) : IsTup h a items := let ⟨o, e, c, _⟩ := x; ⟨o, e, c⟩
theorem TupX.lt {h : Heap} {a : Addr} {items : Array Value} (x : TupX h a items) : a < h.objs.size := let ⟨_, e, _⟩ := x; Heap.lt_size e
theorem TupX.new (h : Heap) (xs : Array Value) : TupX (h.push { cls := .type "tuple", data := .seq xs }) h.objs.size xs := ⟨_, Heap.get?_push_size _ rfl, ⟨rfl, _, rfl⟩, rfl⟩
section
variable (P : Program) (w : World)
noncomputable def ObjOk (H : Hp) (h : Heap) (a : Addr) : HO → Prop
  | .lst xs => xs.length ≤ sizeLine ∧ ∃ (its : List Value) (n : Nat), Vals xs its ∧ h.get? a = some { cls := .type "list", data := .seq its.toArray n }
  | .tup xs => xs.length ≤ sizeLine ∧ ∃ its : List Value, Vals xs its ∧ TupX h a its.toArray
  | .dK kvs => kvs.length ≤ sizeLine ∧ (a == sysModules) = false ∧ ∃ vs, KV kvs vs ∧ h.DictOf (mixKind P w) a vs
  | .dT kvs => kvs.length ≤ sizeLine ∧ (a == sysModules) = false ∧ ∃ xs : List (List Key × Addr × Value),
      Paired (fun (p : List Key × V) (q : List Key × Addr × Value) => p.1 = q.1 ∧ H q.2.1 = some (.tup (p.1.map kV)) ∧ RelV p.2 q.2.2) kvs xs ∧
      ∃ o es ep, h.get? a = some o ∧ o.ExactDict ∧ o.data = .dict es ep ∧ es.toList = xs.map (entryOfKey (tupleKind (mixKind P w))) ∧ (xs.map (·.1)).Nodup
  | .set S n => h.SetOf (intKind P w) a S n
  | .ins C dx fs => H dx = some (.own a) ∧ fs.length ≤ 1000 ∧ dx ≠ a ∧ h.get? a = some (PySem.W.instObj C dx) ∧
      ∃ mA, h.Ns1 dx mA ∧ (∀ f, RelO (fs.lookup f) (mA f)) ∧ PySem.Within mA (fs.map (·.1))
  | .own _ => ∃ o, h.get? a = some o
  | .xd fs => ∃ mA, h.Ns1 a mA ∧ ∀ f, RelO (fs.lookup f) (mA f)
  | .rng lo hi => ∃ t u v, h.get? a = some { cls := .type "range", data := .fields #[.int lo t, .int hi u, .int 1 v] }
  | .frz o u => h.get? a = some o ∧ ObjOk H h a u
  | .tbl ps => h.get? a = some { cls := .none, data := .fields ps }
  | .met f x => h.get? a = some (PySem.W.methodObj (.ref f) (.ref x))
  | .ext φ => φ h ∧ (∃ o, h.get? a = some o) ∧ ∀ h1 h2 : Heap, φ h1 → (∀ o, h1.get? a = some o → h2.get? a = some o) → φ h2
  | .exw φ => φ w h ∧ (∃ o, h.get? a = some o) ∧ ∀ h1 h2 : Heap, φ w h1 → (∀ o, h1.get? a = some o → h2.get? a = some o) → φ w h2
noncomputable def HOk (H : Hp) (h : Heap) : Prop := ∀ a o, H a = some o → ObjOk P w H h a o
end
section
variable {P : Program} {w : World} {H H' : Hp} {h h' : Heap} {a : Addr} {o : HO}
theorem ObjOk.lt (x : ObjOk P w H h a o) : a < h.objs.size := by
  cases o with
  | lst xs => obtain ⟨_, _, _, _, e⟩ := x; exact Heap.lt_size e
  | tup xs => obtain ⟨_, _, _, p⟩ := x; exact p.lt
  | dK kvs => obtain ⟨_, _, _, _, o, _, _, e, _⟩ := x; exact Heap.lt_size e
  | dT kvs => obtain ⟨_, _, _, _, o, _, _, e, _⟩ := x; exact Heap.lt_size e
  | set S n => obtain ⟨o, _, _, _, e, _⟩ := x; exact Heap.lt_size e
  | ins C dx fs => obtain ⟨_, _, _, e, _⟩ := x; exact Heap.lt_size e
  | own y => obtain ⟨_, e⟩ := x; exact Heap.lt_size e
  | xd fs => obtain ⟨_, ⟨_, _, _, e, _⟩, _⟩ := x; exact Heap.lt_size e
  | rng lo hi => obtain ⟨_, _, _, e⟩ := x; exact Heap.lt_size e
  | frz ob u => obtain ⟨e, _⟩ := x; exact Heap.lt_size e
  | tbl ps => exact Heap.lt_size (show h.get? a = some _ from x)
  | met f y => exact Heap.lt_size (show h.get? a = some _ from x)
  | ext φ => obtain ⟨_, ⟨_, e⟩, _⟩ := x; exact Heap.lt_size e
  | exw φ => obtain ⟨_, ⟨_, e⟩, _⟩ := x; exact Heap.lt_size e
theorem Paired.mapP {α β : Type} {F G : α → β → Prop} : ∀ {l₁ : List α} {l₂ : List β}, Paired F l₁ l₂ → (∀ a b, F a b → G a b) → Paired G l₁ l₂
  | _, _, .nil, _ => .nil
  | _, _, .cons r t, f => .cons (f _ _ r) (Paired.mapP t f)
theorem ObjOk.stay (x : ObjOk P w H h a o) (k : ∀ b u, (b = a ∨ H b = some (.own a)) → h.get? b = some u → h'.get? b = some u)
    (ho : ∀ b, H b = some (.own a) → H' b = some (.own a)) (ht : ∀ b xs, H b = some (.tup xs) → H' b = some (.tup xs)) : ObjOk P w H' h' a o := by
  induction o with
  | lst xs => obtain ⟨z, its, n, r, e⟩ := x; exact ⟨z, its, n, r, k _ _ (.inl rfl) e⟩
  | tup xs => obtain ⟨z, its, r, ob, e, c⟩ := x; exact ⟨z, its, r, ob, k _ _ (.inl rfl) e, c⟩
  | dK kvs => obtain ⟨z, y, vs, r, ob, es, ep, e, c⟩ := x; exact ⟨z, y, vs, r, ob, es, ep, k _ _ (.inl rfl) e, c⟩
  | dT kvs =>
    obtain ⟨z, y, xs, r, ob, es, ep, e, c⟩ := x
    exact ⟨z, y, xs, Paired.mapP r fun p q z => ⟨z.1, ht _ _ z.2.1, z.2.2⟩, ob, es, ep, k _ _ (.inl rfl) e, c⟩
  | set S n => obtain ⟨ob, es, ep, t, e, c⟩ := x; exact ⟨ob, es, ep, t, k _ _ (.inl rfl) e, c⟩
  | ins C dx fs =>
    obtain ⟨d, z, ne, e, mA, ⟨od, es, ep, e2, c⟩, r⟩ := x
    exact ⟨ho _ d, z, ne, k _ _ (.inl rfl) e, mA, ⟨od, es, ep, k _ _ (.inr d) e2, c⟩, r⟩
  | own y => obtain ⟨ob, e⟩ := x; exact ⟨ob, k _ _ (.inl rfl) e⟩
  | xd fs => obtain ⟨mA, ⟨od, es, ep, e, c⟩, r⟩ := x; exact ⟨mA, ⟨od, es, ep, k _ _ (.inl rfl) e, c⟩, r⟩
  | rng lo hi => obtain ⟨t, u, v, e⟩ := x; exact ⟨t, u, v, k _ _ (.inl rfl) e⟩
  | frz ob u ih => obtain ⟨e, q⟩ := x; exact ⟨k _ _ (.inl rfl) e, ih q⟩
  | tbl ps =>
    have e : h.get? a = some { cls := .none, data := .fields ps } := x
    show h'.get? a = some { cls := .none, data := .fields ps }
    exact k a _ (.inl rfl) e
  | met f y =>
    have e : h.get? a = some (PySem.W.methodObj (.ref f) (.ref y)) := x
    show h'.get? a = some (PySem.W.methodObj (.ref f) (.ref y))
    exact k a _ (.inl rfl) e
  | ext φ => obtain ⟨p, ⟨o, e⟩, st⟩ := x; exact ⟨st _ _ p fun o q => k _ _ (.inl rfl) q, ⟨o, k _ _ (.inl rfl) e⟩, st⟩
  | exw φ => obtain ⟨p, ⟨o, e⟩, st⟩ := x; exact ⟨st _ _ p fun o q => k _ _ (.inl rfl) q, ⟨o, k _ _ (.inl rfl) e⟩, st⟩
theorem HOk.lt (x : HOk P w H h) (e : H a = some o) : a < h.objs.size := (x a o e).lt
theorem HOk.fresh (x : HOk P w H h) (e : h.objs.size ≤ a) : H a = none := by
  cases q : H a with
  | none => rfl
  | some u => exact absurd (Nat.lt_of_lt_of_le (x.lt q) e) (Nat.lt_irrefl _)
theorem HOk.kept (x : HOk P w H h) (k : ∀ b u, h.get? b = some u → h'.get? b = some u) : HOk P w H h' := fun a o e =>
  (x a o e).stay (fun b u _ q => k b u q) (fun _ q => q) fun _ _ q => q
theorem HOk.laid (x : HOk P w H h) (k : ∀ b u, h.get? b = some u → h'.get? b = some u) (hp : h.objs.size ≤ a) (new : ObjOk P w (upd H a o) h' a o) : HOk P w (upd H a o) h' := fun b u e => by
  have hn := x.fresh hp
  by_cases hb : b = a
  · subst hb; rw [upd_same] at e; cases e; exact new
  · rw [upd_ne hb] at e
    exact (x b u e).stay (fun c v _ q => k c v q) (fun c q => by rw [upd_ne (ne_of_none q hn)]; exact q) fun c xs q => by rw [upd_ne (ne_of_none q hn)]; exact q
end
noncomputable def Rd (H : Hp) (a : Addr) (u : HO) : Prop := H a = some u ∨ ∃ o, H a = some (.frz o u)
theorem Rd.ok {P : Program} {w : World} {H : Hp} {h : Heap} {a : Addr} {u : HO} (r : Rd H a u) (x : HOk P w H h) : ObjOk P w H h a u := by
  rcases r with r | ⟨o, r⟩
  · exact x a u r
  · obtain ⟨_, q⟩ := x a _ r
    exact q
noncomputable def Mut : Option HO → Prop
  | some (.lst _) => True
  | some (.dK _) => True
  | some (.dT _) => True
  | some (.set _ _) => True
  | some (.ins _ _ _) => True
  | some (.ext _) => True
  | some (.exw _) => True
  | _ => False
section
variable {P : Program} {w : World} {H : Hp} {h h' : Heap} {x e : Addr} {o' : HO}
theorem HOk.write (ok : HOk P w H h) (mu : Mut (H x)) (he : e = x ∨ H e = some (.own x)) (k : ∀ b u, b ≠ e → h.get? b = some u → h'.get? b = some u) (heo : ∃ u, h'.get? e = some u)
    (new : ObjOk P w (upd H x o') h' x o') : HOk P w (upd H x o') h' := fun b u q => by
  have nown : ∀ c y, H c = some (.own y) → c ≠ x := fun c y r z => by subst z; rw [r] at mu; exact mu
  have ntup : ∀ c xs, H c = some (.tup xs) → c ≠ x := fun c xs r z => by subst z; rw [r] at mu; exact mu
  by_cases hb : b = x
  · subst hb; rw [upd_same] at q; cases q; exact new
  · rw [upd_ne hb] at q
    by_cases hbe : b = e
    · have q' : H b = some (.own x) := by
        rcases he with z | z
        · exact absurd (hbe.trans z) hb
        · rw [hbe]; exact z
      rw [q] at q'; cases q'
      obtain ⟨v, hv⟩ := heo
      exact ⟨v, by rw [hbe]; exact hv⟩
    · refine (ok b u q).stay (fun c v hc r => k c v ?_ r) (fun c r => by rw [upd_ne (nown c b r)]; exact r) fun c xs r => by rw [upd_ne (ntup c xs r)]; exact r
      rcases hc with rfl | hc
      · exact hbe
      · rintro rfl
        rcases he with z | z
        · exact nown c b hc z
        · rw [hc] at z; cases z; exact hb rfl
end
structure Un (fs ex : List Addr) (H H' : Hp) (h h' : Heap) : Prop where
  keep : ∀ b o, h.get? b = some o → H b = none → b ∉ fs → b ∉ ex → h'.get? b = some o
  slot : ∀ b o, h.get? b = some o → H b = none → b ∈ fs → b ∉ ex → ∃ sl, h'.get? b = some { o with slots := sl }
  free : ∀ b o, h.get? b = some o → H b = none → b ∉ ex → H' b = none
  there : ∀ b o, h.get? b = some o → b ∉ ex → ∃ o', h'.get? b = some o'
  tups : ∀ b xs, H b = some (.tup xs) → H' b = some (.tup xs)
  frzs : ∀ b o u, H b = some (.frz o u) → H' b = some (.frz o u)
  tbls : ∀ b ps, H b = some (.tbl ps) → ∃ more, H' b = some (.tbl (ps ++ more))
section
variable {fs fs' ex ex' : List Addr} {H H1 H2 : Hp} {h h1 h2 h' : Heap} {a x e : Addr} {o : HO}
theorem Un.any (u : Un fs ex H H1 h h1) {b : Addr} {ob : Obj} (q : h.get? b = some ob) (n : H b = none) (hx : b ∉ ex) : ∃ sl, h1.get? b = some { ob with slots := sl } := by
  by_cases hb : b ∈ fs
  · exact u.slot b ob q n hb hx
  · exact ⟨ob.slots, u.keep b ob q n hb hx⟩
theorem Un.kept (k : ∀ b u, h.get? b = some u → h'.get? b = some u) : Un fs ex H H h h' :=
  ⟨fun b ob q _ _ _ => k b ob q, fun b ob q _ _ _ => ⟨ob.slots, k b ob q⟩, fun _ _ _ n _ => n, fun b ob q _ => ⟨ob, k b ob q⟩, fun _ _ q => q, fun _ _ _ q => q, fun _ ps q => ⟨#[], by rw [q]; simp⟩⟩
theorem Un.refl : Un fs ex H H h h := Un.kept fun _ _ q => q
theorem Un.laid (k : ∀ b u, h.get? b = some u → h'.get? b = some u) (hp : h.objs.size ≤ a) (hn : H a = none) : Un fs ex H (upd H a o) h h' where
  keep := fun b u q _ _ _ => k b u q
  slot := fun b u q _ _ _ => ⟨u.slots, k b u q⟩
  free := fun b u q n _ => by rw [upd_ne (Nat.ne_of_lt (Nat.lt_of_lt_of_le (Heap.lt_size q) hp))]; exact n
  there := fun b u q _ => ⟨u, k b u q⟩
  tups := fun b xs q => by rw [upd_ne (ne_of_none q hn)]; exact q
  frzs := fun b u xs q => by rw [upd_ne (ne_of_none q hn)]; exact q
  tbls := fun b ps q => ⟨#[], by rw [upd_ne (ne_of_none q hn), q]; simp⟩
theorem Un.write (mu : Mut (H x)) (he : e = x ∨ H e = some (.own x)) (k : ∀ b u, b ≠ e → h.get? b = some u → h'.get? b = some u) (heo : ∃ u, h'.get? e = some u) : Un fs ex H (upd H x o) h h' := by
  have hx : ∀ b, H b = none → b ≠ x := fun b n z => by subst z; rw [n] at mu; exact mu
  have hb : ∀ b, H b = none → b ≠ e := fun b n z => by
    subst z
    rcases he with r | r
    · exact hx b n r
    · rw [n] at r; cases r
  have hm : ∀ b u, H b = some u → ¬ Mut (some u) → b ≠ x := fun b u q nm z => by subst z; rw [q] at mu; exact nm mu
  refine ⟨fun b u q n _ _ => k b u (hb b n) q, fun b u q n _ _ => ⟨u.slots, k b u (hb b n) q⟩, fun b u q n _ => by rw [upd_ne (hx b n)]; exact n, fun b u q _ => ?_,
    fun b xs q => by rw [upd_ne (hm b _ q fun z => z)]; exact q, fun b u xs q => by rw [upd_ne (hm b _ q fun z => z)]; exact q, fun b ps q => ⟨#[], by rw [upd_ne (hm b _ q fun z => z), q]; simp⟩⟩
  by_cases hbe : b = e
  · subst hbe; exact heo
  · exact ⟨u, k b u hbe q⟩
end
noncomputable def trk (h : Heap) (H : Hp) : List Addr := (List.range h.objs.size).filter fun a => (H a).isSome
noncomputable def hidT (h : Heap) (H : Hp) : Heap := PySem.W.hideAll h (trk h H)
theorem hidT_size (h : Heap) (H : Hp) : (hidT h H).objs.size = h.objs.size := PySem.W.hideAll_size _ _
theorem hidT_get {h : Heap} {H : Hp} {b : Addr} {o : Obj} (e : h.get? b = some o) (n : H b = none) : (hidT h H).get? b = some o :=
  PySem.W.hideAll_get _ e fun hm => by
    have q : (H b).isSome = true := (List.mem_filter.mp hm).2
    rw [n] at q; simp at q
theorem of_hidT {h : Heap} {H : Hp} {b : Addr} {o : Obj} (e : (hidT h H).get? b = some o) : h.get? b = some o ∧ H b = none := by
  have e' : h.get? b = some o := PySem.W.of_hideAll (trk h H) e
  refine ⟨e', ?_⟩
  cases q : H b with
  | none => rfl
  | some x =>
    have hm : b ∈ trk h H := List.mem_filter.mpr ⟨List.mem_range.mpr (Heap.lt_size e'), by simp [q]⟩
    have z : (hidT h H).get? b = none := PySem.W.hideAll_none (trk h H) hm
    rw [z] at e; cases e
end L2
namespace L2
open PySem PySem.Spec PyProof.Rows
structure Mod (K : PySem.W.Frag) (mg : Str → Option Value) (base : Heap) : Prop where
  kin : K.In base
  glob : base.Ns mainGlobals mg
  blt : ∃ mb, base.Ns builtinsNs mb ∧ ∀ x : Str, x ≠ "__name__" → mb x = bootBuiltins x
  nolimit : base.NoLimit
structure Cx where
  prog : Program
  w : World
  K : PySem.W.Frag
  mg : Str → Option Value
  base : Heap
  A : Around
  N : List Str
  s₀ : Shared
  H₀ : Hp
  env : Env
  outer : List Env
  stack : List Env
  ex : List Addr
  fn : Str → Bool
  calm : Bool
  pn : List (Addr × Obj)
  xe : Value → Shared → Prop
noncomputable def frs (l : List Env) : List Addr := l.filterMap (·.frame)
noncomputable abbrev Cx.fs (X : Cx) : List Addr := frs X.outer
noncomputable def Vis (sc : Scope) (x : Str) : Prop := sc.names.lookup x = some .local ∨ sc.names.lookup x = some .cell ∨ sc.names.lookup x = some .free
noncomputable def Loc (sc : Scope) (x : Str) : Prop := sc.names.lookup x = some .local ∨ sc.names.lookup x = some .cell
noncomputable def Look (env : Env) (h : Heap) (m : Str → Option Value) (x : Str) (u : Value) : Prop :=
  (env.kindOf x = some .local ∧ m x = some u) ∨ ((env.kindOf x = some .cell ∨ env.kindOf x = some .free) ∧ ∃ c, env.cells.lookup x = some c ∧ h.IsCell c (some u))
structure Cx.Ok (X : Cx) : Prop where
  mod : Mod X.K X.mg X.base
  kind : X.env.scope.kind = .function
  glob : X.env.globals = mainGlobals
  blt : X.env.builtins = builtinsNs
  above : X.s₀.heap.objs.size ≤ X.env.locals
  inj : ∀ x y c, X.env.cells.lookup x = some c → X.env.cells.lookup y = some c → x = y
  has : ∀ x, (X.env.kindOf x = some .cell ∨ X.env.kindOf x = some .free) → ∃ c, X.env.cells.lookup x = some c
  cab : ∀ x c, X.fn x = true → X.env.cells.lookup x = some c → X.s₀.heap.objs.size ≤ c
  hd : X.calm = true → X.A.handled = none
  frames : X.A.frames = some X.stack
  stk : X.stack = X.outer ∨ (X.stack = X.env :: X.outer ∧ X.env.frame = some X.env.locals)
  exf : ∀ b ∈ X.ex, b ≠ X.env.locals ∧ ∀ x c, X.env.cells.lookup x = some c → c ≠ b
  bs : ∀ b o, X.base.get? b = some o → X.s₀.heap.get? b = some o ∧ X.H₀ b = none
  bsz : X.base.objs.size ≤ X.s₀.heap.objs.size
  noex : ∀ b o, X.base.get? b = some o → b ∉ X.ex
  exfs : ∀ b ∈ X.ex, b ∉ X.fs
  funs : X.s₀.heap.FunFrames X.base X.outer
  frf : ∀ b ∈ X.fs, X.H₀ b = none
structure Inv (X : Cx) (pins : List (Addr × Obj)) (σ : List (Option V)) (H : Hp) (s : Shared) : Prop where
  ok : X.Ok
  os : s.os = X.s₀.os
  bare : AllBare s.gens
  base : Un X.fs X.ex X.H₀ H X.s₀.heap s.heap
  loc : ∃ m, s.heap.Ns X.env.locals m ∧ ∀ (i : Nat) (x : Str) (v : V), X.N[i]? = some x → σ[i]? = some (some v) → Vis X.env.scope x → ∃ u, RelV v u ∧ Look X.env s.heap m x u
  cell : ∀ x c, X.env.cells.lookup x = some c → ∃ v, s.heap.IsCell c v
  free : H X.env.locals = none
  freeC : ∀ x c, X.env.cells.lookup x = some c → H c = none
  pin : ∀ p ∈ X.pn ++ pins, s.heap.get? p.1 = some p.2 ∧ H p.1 = none ∧ p.1 ≠ X.env.locals ∧ p.1 ∉ X.fs ∧ ∀ v, p.2.data ≠ .cell v
  hok : HOk X.prog X.w H s.heap
  len : σ.length = X.N.length
section
variable {X : Cx} {pins : List (Addr × Obj)} {σ : List (Option V)} {H H' : Hp} {s : Shared} {h' : Heap}
theorem Cx.Ok.nofr (ok : X.Ok) {b : Addr} {o : Obj} (e : X.base.get? b = some o) : b ∉ X.fs := fun hb => by
  have := (ok.funs.mem hb).1
  rw [e] at this; cases this
theorem Inv.bs (I : Inv X pins σ H s) : ∀ b o, X.base.get? b = some o → s.heap.get? b = some o ∧ H b = none := fun b o e =>
  ⟨I.base.keep b o (I.ok.bs b o e).1 (I.ok.bs b o e).2 (I.ok.nofr e) (I.ok.noex b o e), I.base.free b o (I.ok.bs b o e).1 (I.ok.bs b o e).2 (I.ok.noex b o e)⟩
theorem Inv.bk (I : Inv X pins σ H s) : ∀ b o, X.base.get? b = some o → s.heap.get? b = some o := fun b o e => (I.bs b o e).1
theorem Inv.mod (I : Inv X pins σ H s) : Mod X.K X.mg X.base := I.ok.mod
theorem Inv.kIn (I : Inv X pins σ H s) : X.K.In s.heap := I.ok.mod.kin.keeps I.bk
theorem Inv.lt (I : Inv X pins σ H s) : X.env.locals < s.heap.objs.size := let ⟨_, hn, _⟩ := I.loc; hn.lt
theorem Inv.sz (I : Inv X pins σ H s) : X.s₀.heap.objs.size ≤ s.heap.objs.size := Nat.le_trans I.ok.above (Nat.le_of_lt I.lt)
theorem Inv.nofs (I : Inv X pins σ H s) {a : Addr} (h : s.heap.objs.size ≤ a) : a ∉ X.fs := fun hb => by
  obtain ⟨_, o, ho, _⟩ := I.ok.funs.mem hb
  exact absurd (Nat.lt_of_lt_of_le (Heap.lt_size ho) (Nat.le_trans I.sz h)) (Nat.lt_irrefl _)
theorem Inv.cne (I : Inv X pins σ H s) : ∀ x c, X.env.cells.lookup x = some c → c ≠ X.env.locals := fun x c e z => by
  obtain ⟨v, o, ho, hd⟩ := I.cell x c e
  obtain ⟨m, ⟨o', es, ep, ho', hd', _⟩, _⟩ := I.loc
  rw [z, ho'] at ho; cases ho; rw [hd'] at hd; cases hd
theorem Inv.funs (I : Inv X pins σ H s) : s.heap.FunFrames X.base X.outer := by
  have all : ∀ (l : List Env), (∀ b ∈ frs l, b ∈ X.fs) → X.s₀.heap.FunFrames X.base l → s.heap.FunFrames X.base l := by
    intro l
    induction l with
    | nil => intro _ _; trivial
    | cons env r ih =>
      intro hs hl
      obtain ⟨hk, ⟨L, o, hf, hn, ho, hd⟩, hr⟩ := hl
      have hL : L ∈ X.fs := hs L (by unfold frs; rw [List.filterMap_cons, hf]; exact List.mem_cons_self)
      obtain ⟨sl, e⟩ := I.base.slot L o ho (I.ok.frf L hL) hL fun z => I.ok.exfs L z hL
      exact ⟨hk, ⟨L, _, hf, hn, e, hd⟩, ih (fun b hb => hs b (by unfold frs; rw [List.filterMap_cons, hf]; exact List.mem_cons_of_mem _ hb)) hr⟩
  exact all X.outer (fun _ hb => hb) I.ok.funs
theorem Inv.stack (I : Inv X pins σ H s) : s.heap.FunFrames X.base X.stack := by
  rcases I.ok.stk with e | ⟨e, hf⟩
  · rw [e]; exact I.funs
  · rw [e]
    obtain ⟨m, hn, _⟩ := I.loc
    refine .cons (by rw [I.ok.kind]; decide) hf hn ?_ I.funs
    exact Heap.get?_none_of_le (Nat.le_trans I.ok.bsz I.ok.above)
theorem Inv.stkSub (I : Inv X pins σ H s) : ∀ b ∈ frs X.stack, b ∈ X.env.locals :: X.fs := fun b hb => by
  rcases I.ok.stk with e | ⟨e, hf⟩
  · rw [e] at hb; exact List.mem_cons_of_mem _ hb
  · rw [e] at hb
    unfold frs at hb
    rw [List.filterMap_cons, hf] at hb
    exact hb
theorem Inv.stkFree (I : Inv X pins σ H s) : ∀ b ∈ frs X.stack, H b = none := fun b hb => by
  rcases List.mem_cons.mp (I.stkSub b hb) with e | hb
  · rw [e]; exact I.free
  · obtain ⟨_, o, ho, _⟩ := I.ok.funs.mem hb
    exact I.base.free b o ho (I.ok.frf b hb) fun z => I.ok.exfs b z hb
theorem Inv.step {g' : Array GenState} {t' : Nat} {d' : Drawn} {ch : List Addr} (I : Inv X pins σ H s)
    (hch : ∀ b ∈ ch, (b ∈ X.ex ∨ X.s₀.heap.objs.size ≤ b) ∧ b ≠ X.env.locals ∧ (∀ x c, X.env.cells.lookup x = some c → c ≠ b) ∧ ∀ p ∈ X.pn ++ pins, p.1 ≠ b)
    (keep : ∀ b o, b ≠ X.env.locals → b ∉ X.fs → b ∉ ch → s.heap.get? b = some o → H b = none → h'.get? b = some o)
    (slot : ∀ b o, b ≠ X.env.locals → b ∈ X.fs → b ∉ ch → s.heap.get? b = some o → H b = none → ∃ sl, h'.get? b = some { o with slots := sl }) (free : ∀ b o, b ∉ ch → s.heap.get? b = some o → H b = none → H' b = none)
    (there : ∀ b o, b ∉ ch → s.heap.get? b = some o → ∃ o', h'.get? b = some o')
    (tups : ∀ b xs, H b = some (.tup xs) → H' b = some (.tup xs)) (frzs : ∀ b o u, H b = some (.frz o u) → H' b = some (.frz o u)) (tbls : ∀ b ps, H b = some (.tbl ps) → ∃ more, H' b = some (.tbl (ps ++ more)))
    (ns : ∀ m, s.heap.Ns X.env.locals m → h'.Ns X.env.locals m) (hok : HOk X.prog X.w H' h') (hg : AllBare g') :
    Inv X pins σ H' { s with heap := h', gens := g', drawn := d', toks := t' } := by
  have neL : ∀ b o, X.s₀.heap.get? b = some o → b ≠ X.env.locals := fun b o e => Nat.ne_of_lt (Nat.lt_of_lt_of_le (Heap.lt_size e) I.ok.above)
  have neC : ∀ b o, X.s₀.heap.get? b = some o → b ∉ X.ex → b ∉ ch := fun b o e hx hb => by
    rcases (hch b hb).1 with z | z
    · exact hx z
    · exact absurd (Nat.lt_of_lt_of_le (Heap.lt_size e) z) (Nat.lt_irrefl _)
  have cellK : ∀ x c, X.env.cells.lookup x = some c → ∀ v, s.heap.IsCell c v → h'.IsCell c v := fun x c e v ⟨o, ho, hd⟩ => by
    have nch : c ∉ ch := fun z => (hch c z).2.2.1 x c e rfl
    by_cases hc : c ∈ X.fs
    · obtain ⟨sl, q⟩ := slot c o (I.cne x c e) hc nch ho (I.freeC x c e)
      exact ⟨_, q, hd⟩
    · exact ⟨o, keep c o (I.cne x c e) hc nch ho (I.freeC x c e), hd⟩
  refine ⟨I.ok, I.os, hg, ⟨fun b o e n hb hx => ?_, fun b o e n hb hx => ?_, fun b o e n hx => ?_, fun b o e hx => ?_, fun b xs e => tups b xs (I.base.tups b xs e), fun b o xs e => frzs b o xs (I.base.frzs b o xs e), fun b ps e => ?_⟩, ?_, fun x c e => ?_, ?_, fun x c e => ?_, fun p hp => ?_, hok, I.len⟩
  · exact keep b o (neL b o e) hb (neC b o e hx) (I.base.keep b o e n hb hx) (I.base.free b o e n hx)
  · obtain ⟨sl, e1⟩ := I.base.slot b o e n hb hx
    obtain ⟨sl', e2⟩ := slot b _ (neL b o e) hb (neC b o e hx) e1 (I.base.free b o e n hx)
    exact ⟨sl', e2⟩
  · obtain ⟨o', e1⟩ := I.base.there b o e hx
    exact free b o' (neC b o e hx) e1 (I.base.free b o e n hx)
  · obtain ⟨o', e1⟩ := I.base.there b o e hx
    exact there b o' (neC b o e hx) e1
  · obtain ⟨m1, e1⟩ := I.base.tbls b ps e
    obtain ⟨m2, e2⟩ := tbls b _ e1
    exact ⟨m1 ++ m2, by rw [e2, Array.append_assoc]⟩
  · obtain ⟨m, hn, hl⟩ := I.loc
    refine ⟨m, ns m hn, fun i x v e1 e2 e3 => ?_⟩
    obtain ⟨u, r, l⟩ := hl i x v e1 e2 e3
    refine ⟨u, r, ?_⟩
    rcases l with l | ⟨k, c, e, z⟩
    · exact .inl l
    · exact .inr ⟨k, c, e, cellK x c e _ z⟩
  · obtain ⟨v, z⟩ := I.cell x c e
    exact ⟨v, cellK x c e v z⟩
  · obtain ⟨m, ⟨o, _, _, ho, _⟩, _⟩ := I.loc
    exact free _ o (fun z => (hch _ z).2.1 rfl) ho I.free
  · obtain ⟨v, o, ho, hd⟩ := I.cell x c e
    exact free c o (fun z => (hch c z).2.2.1 x c e rfl) ho (I.freeC x c e)
  · obtain ⟨e, n, ne, nf, d⟩ := I.pin p hp
    have nch : p.1 ∉ ch := fun z => (hch p.1 z).2.2.2 p hp rfl
    exact ⟨keep p.1 p.2 ne nf nch e n, free p.1 p.2 nch e n, ne, nf, d⟩
theorem Inv.un {t' : Nat} (I : Inv X pins σ H s) (u : Un X.fs [] H H' s.heap h') (hok : HOk X.prog X.w H' h') : Inv X pins σ H' { s with heap := h', toks := t' } := by
  obtain ⟨m, ⟨o, es, ep, ho, r⟩, _⟩ := id I.loc
  obtain ⟨sl, hL⟩ := u.any ho I.free (by simp)
  exact I.step (g' := s.gens) (d' := s.drawn) (ch := []) (fun _ z => nomatch z) (fun b o _ hb _ e n => u.keep b o e n hb (by simp)) (fun b o _ hb _ e n => u.slot b o e n hb (by simp)) (fun b o _ e n => u.free b o e n (by simp)) (fun b o _ e => u.there b o e (by simp)) u.tups u.frzs u.tbls (fun m' hm => by
    obtain ⟨o', es', ep', ho', r'⟩ := hm
    rw [ho] at ho'; cases ho'
    exact ⟨_, es', ep', hL, r'⟩) hok I.bare
theorem Inv.call {g' : Array GenState} {t' : Nat} {d' : Drawn} {ch : List Addr} (I : Inv X pins σ H s) (u : Un (frs X.stack) ch H H' s.heap h') (hok : HOk X.prog X.w H' h') (hg : AllBare g')
    (hch : ∀ b ∈ ch, (b ∈ X.ex ∨ X.s₀.heap.objs.size ≤ b) ∧ b ≠ X.env.locals ∧ (∀ x c, X.env.cells.lookup x = some c → c ≠ b) ∧ ∀ p ∈ X.pn ++ pins, p.1 ≠ b) :
    Inv X pins σ H' { s with heap := h', gens := g', drawn := d', toks := t' } := by
  obtain ⟨m, ⟨o, es, ep, ho, r⟩, _⟩ := id I.loc
  obtain ⟨sl, hL⟩ := u.any ho I.free fun z => (hch _ z).2.1 rfl
  exact I.step (ch := ch) hch (fun b o hL hb hc e n => u.keep b o e n (fun z => (List.mem_cons.mp (I.stkSub b z)).elim hL hb) hc) (fun b o _ _ hc e n => u.any e n hc) (fun b o hc e n => u.free b o e n hc) (fun b o hc e => u.there b o e hc) u.tups u.frzs u.tbls (fun m' hm => by
    obtain ⟨o', es', ep', ho', r'⟩ := hm
    rw [ho] at ho'; cases ho'
    exact ⟨_, es', ep', hL, r'⟩) hok hg
theorem Inv.turned {t' : Nat} {it : Addr} (I : Inv X pins σ H s) (k : ∀ b o, b ≠ it → s.heap.get? b = some o → h'.get? b = some o) (hn : H it = none) (hL : it ≠ X.env.locals)
    (h1 : it ∈ X.ex ∨ X.s₀.heap.objs.size ≤ it) (h2 : ∀ x c, X.env.cells.lookup x = some c → c ≠ it) (h3 : ∀ p ∈ X.pn ++ pins, p.1 ≠ it) : Inv X pins σ H { s with heap := h', toks := t' } := by
  have nit : ∀ b u, H b = some u → b ≠ it := fun b u e z => by rw [z, hn] at e; cases e
  refine I.step (g' := s.gens) (d' := s.drawn) (ch := [it]) (fun b hb => ?_) (fun b o _ _ hc e _ => k b o (fun z => hc (by simp [z])) e) (fun b o _ _ hc e _ => ⟨o.slots, k b o (fun z => hc (by simp [z])) e⟩) (fun _ _ _ _ n => n)
    (fun b o hc e => ⟨o, k b o (fun z => hc (by simp [z])) e⟩) (fun _ _ e => e) (fun _ _ _ e => e) (fun b ps e => ⟨#[], by rw [e]; simp⟩) (fun m hm => ?_) (fun b u e => ?_) I.bare
  · have e : b = it := by simpa using hb
    subst e
    exact ⟨h1, hL, h2, h3⟩
  · obtain ⟨o, es, ep, ho, r⟩ := hm
    exact ⟨o, es, ep, k _ o (Ne.symm hL) ho, r⟩
  · refine (I.hok b u e).stay (fun c v hc q => k c v ?_ q) (fun _ q => q) fun _ _ q => q
    rcases hc with z | z
    · rw [z]; exact nit b u e
    · exact nit c _ z
theorem Inv.tok (I : Inv X pins σ H s) (t : Nat) : Inv X pins σ H { s with toks := t } := I.un (h' := s.heap) (t' := t) Un.refl I.hok
theorem Inv.kept {t' : Nat} (I : Inv X pins σ H s) (k : ∀ b u, s.heap.get? b = some u → h'.get? b = some u) : Inv X pins σ H { s with heap := h', toks := t' } := I.un (Un.kept k) (I.hok.kept k)
theorem Inv.laid {a : Addr} {o : HO} {t' : Nat} (I : Inv X pins σ H s) (k : ∀ b u, s.heap.get? b = some u → h'.get? b = some u) (hp : s.heap.objs.size ≤ a) (new : ObjOk X.prog X.w (upd H a o) h' a o) :
    Inv X pins σ (upd H a o) { s with heap := h', toks := t' } := I.un (Un.laid k hp (I.hok.fresh hp)) (I.hok.laid k hp new)
theorem Inv.write {x e : Addr} {o : HO} {t' : Nat} (I : Inv X pins σ H s) (mu : Mut (H x)) (he : e = x ∨ H e = some (.own x)) (k : ∀ b u, b ≠ e → s.heap.get? b = some u → h'.get? b = some u) (heo : ∃ u, h'.get? e = some u)
    (new : ObjOk X.prog X.w (upd H x o) h' x o) : Inv X pins σ (upd H x o) { s with heap := h', toks := t' } := I.un (Un.write mu he k heo) (I.hok.write mu he k heo new)
theorem Inv.pins_of {pins' : List (Addr × Obj)} (I : Inv X pins σ H s) (h : ∀ p ∈ pins', s.heap.get? p.1 = some p.2 ∧ H p.1 = none ∧ p.1 ≠ X.env.locals ∧ p.1 ∉ X.fs ∧ ∀ v, p.2.data ≠ .cell v) : Inv X pins' σ H s :=
  ⟨I.ok, I.os, I.bare, I.base, I.loc, I.cell, I.free, I.freeC, fun p hp => (List.mem_append.mp hp).elim (fun z => I.pin p (List.mem_append_left _ z)) (h p), I.hok, I.len⟩
theorem nodup_ix {N : List Str} (hN : N.Nodup) {i j : Nat} {x : Str} (a : N[i]? = some x) (b : N[j]? = some x) : i = j := by
  obtain ⟨h1, e1⟩ := List.getElem?_eq_some_iff.mp a
  obtain ⟨h2, e2⟩ := List.getElem?_eq_some_iff.mp b
  exact (List.getElem_inj hN).mp (e1.trans e2.symm)
theorem store_ok2 {M : Model} {A : Around} {E : Value → Shared → Prop} {i : Nat} {x : Str} {v : V} {u : Value} {Q : Unit → Shared → Prop} (I : Inv X pins σ H s) (hN : X.N.Nodup) (hi : X.N[i]? = some x) (hx : Loc X.env.scope x) (r : RelV v u)
    (h : ∀ s', Inv X pins (σ.set i (some v)) H s' → (∃ a, Heap.SameBut a s.heap s'.heap ∧ (a = X.env.locals ∨ X.env.cells.lookup x = some a)) → Q () s') (hf : X.fn x = true ∨ X.env.scope.names.lookup x = some .local := by first | exact .inl rfl | exact .inr rfl | assumption) : wpAny M A (storeName X.env x u) Q E s := by
  obtain ⟨m, hn, hl⟩ := id I.loc
  have hcls : (X.env.scope.kind == .class || (X.env.scope.kind == .module && X.env.locals != X.env.globals)) = false := by rw [I.ok.kind]; rfl
  have hiσ : i < σ.length := by rw [I.len]; exact (List.getElem?_eq_some_iff.mp hi).1
  have cne := I.cne
  have tracked : ∀ {a : Addr} {h' : Heap}, (∃ o, s.heap.get? a = some o ∧ H a = none) → Heap.SameBut a s.heap h' → HOk X.prog X.w H h' := fun {a h'} ha hs b ob e => by
    obtain ⟨_, _, hfree⟩ := ha
    refine (I.hok b ob e).stay (fun c w' hc q => (hs.2 c ?_).trans q) (fun _ q => q) fun _ _ q => q
    rintro rfl
    rcases hc with rfl | hc
    · rw [hfree] at e; cases e
    · rw [hfree] at hc; cases hc
  rcases hx with hk | hk
  · refine wpAny_storeName_local hk hn (fun h' hn' hs => ?_) hcls
    obtain ⟨oL, _, _, hoL, _⟩ := id hn
    refine h _ ⟨I.ok, I.os, I.bare, ⟨fun b o e n hb hx => ?_, fun b o e n hb hx => ?_, I.base.free, fun b o e hx => ?_, I.base.tups, I.base.frzs, I.base.tbls⟩, ⟨_, hn', fun j y v' e1 e2 e3 => ?_⟩, fun y c e => ?_, I.free, I.freeC, fun p hp => ?_, tracked ⟨oL, hoL, I.free⟩ hs, by simpa using I.len⟩ ⟨_, hs, .inl rfl⟩
    · exact (hs.2 b (Nat.ne_of_lt (Nat.lt_of_lt_of_le (Heap.lt_size e) I.ok.above))).trans (I.base.keep b o e n hb hx)
    · obtain ⟨sl, e1⟩ := I.base.slot b o e n hb hx
      exact ⟨sl, (hs.2 b (Nat.ne_of_lt (Nat.lt_of_lt_of_le (Heap.lt_size e) I.ok.above))).trans e1⟩
    · obtain ⟨o', e1⟩ := I.base.there b o e hx
      exact ⟨o', (hs.2 b (Nat.ne_of_lt (Nat.lt_of_lt_of_le (Heap.lt_size e) I.ok.above))).trans e1⟩
    · by_cases hj : j = i
      · subst hj
        rw [hi] at e1; cases e1
        rw [List.getElem?_set_self hiσ] at e2
        cases e2
        exact ⟨u, r, .inl ⟨hk, by simp⟩⟩
      · rw [List.getElem?_set_ne (Ne.symm hj)] at e2
        obtain ⟨u', r', q⟩ := hl j y v' e1 e2 e3
        refine ⟨u', r', ?_⟩
        rcases q with ⟨k, e⟩ | ⟨k, c, e, z⟩
        · refine .inl ⟨k, ?_⟩
          have : y ≠ x := fun e => hj (nodup_ix hN e1 (e ▸ hi))
          simp [this, e]
        · exact .inr ⟨k, c, e, z.sameBut hs (cne y c e)⟩
    · obtain ⟨w', z⟩ := I.cell y c e
      exact ⟨w', z.sameBut hs (cne y c e)⟩
    · obtain ⟨e, n, ne, nf, d⟩ := I.pin p hp
      exact ⟨(hs.2 p.1 ne).trans e, n, ne, nf, d⟩
  · have hfn : X.fn x = true := by
      rcases hf with z | z
      · exact z
      · rw [z] at hk; cases hk
    obtain ⟨c, hc⟩ := I.ok.has x (.inl hk)
    obtain ⟨w', z⟩ := I.cell x c hc
    refine wpAny_storeName_cell I.ok.kind hk hc z (fun h' hc' hs => ?_)
    obtain ⟨oc, hoc, hocd⟩ := id z
    refine h { s with heap := h' } ⟨I.ok, I.os, I.bare, ⟨fun b o e n hb hx => ?_, fun b o e n hb hx => ?_, I.base.free, fun b o e hx => ?_, I.base.tups, I.base.frzs, I.base.tbls⟩, ⟨m, hn.sameBut hs (Ne.symm (cne x c hc)), fun j y v' e1 e2 e3 => ?_⟩, fun y c' e => ?_, I.free, I.freeC, fun p hp => ?_, tracked ⟨oc, hoc, I.freeC x c hc⟩ hs, by simpa using I.len⟩ ⟨c, hs, .inr hc⟩
    · exact (hs.2 b (Nat.ne_of_lt (Nat.lt_of_lt_of_le (Heap.lt_size e) (I.ok.cab x c hfn hc)))).trans (I.base.keep b o e n hb hx)
    · obtain ⟨sl, e1⟩ := I.base.slot b o e n hb hx
      exact ⟨sl, (hs.2 b (Nat.ne_of_lt (Nat.lt_of_lt_of_le (Heap.lt_size e) (I.ok.cab x c hfn hc)))).trans e1⟩
    · obtain ⟨o', e1⟩ := I.base.there b o e hx
      exact ⟨o', (hs.2 b (Nat.ne_of_lt (Nat.lt_of_lt_of_le (Heap.lt_size e) (I.ok.cab x c hfn hc)))).trans e1⟩
    · by_cases hj : j = i
      · subst hj
        rw [hi] at e1; cases e1
        rw [List.getElem?_set_self hiσ] at e2
        cases e2
        exact ⟨u, r, .inr ⟨.inl hk, c, hc, hc'⟩⟩
      · rw [List.getElem?_set_ne (Ne.symm hj)] at e2
        obtain ⟨u', r', q⟩ := hl j y v' e1 e2 e3
        refine ⟨u', r', ?_⟩
        rcases q with q | ⟨k, c', e, z'⟩
        · exact .inl q
        · refine .inr ⟨k, c', e, z'.sameBut hs ?_⟩
          rintro rfl
          exact hj (nodup_ix hN e1 (I.ok.inj _ _ _ e hc ▸ hi))
    · by_cases hcc : c' = c
      · subst hcc; exact ⟨_, hc'⟩
      · obtain ⟨w2, z2⟩ := I.cell y c' e
        exact ⟨w2, z2.sameBut hs hcc⟩
    · obtain ⟨e, n, ne, nf, d⟩ := I.pin p hp
      refine ⟨(hs.2 p.1 ?_).trans e, n, ne, nf, d⟩
      intro q
      rw [q, hoc] at e
      have q' : oc = p.2 := Option.some.inj e
      exact d w' (by rw [← q']; exact hocd)
theorem store_ok {M : Model} {A : Around} {E : Value → Shared → Prop} {i : Nat} {x : Str} {v : V} {u : Value} {Q : Unit → Shared → Prop} (I : Inv X pins σ H s) (hN : X.N.Nodup) (hi : X.N[i]? = some x) (hx : Loc X.env.scope x) (r : RelV v u)
    (h : ∀ s', Inv X pins (σ.set i (some v)) H s' → Q () s') (hf : X.fn x = true ∨ X.env.scope.names.lookup x = some .local := by first | exact .inl rfl | exact .inr rfl | assumption) : wpAny M A (storeName X.env x u) Q E s :=
  store_ok2 I hN hi hx r (fun s' I' _ => h s' I') hf
theorem Inv.call' {s' : Shared} {ch : List Addr} (I : Inv X pins σ H s) (ho : s'.os = s.os) (u : Un (frs X.stack) ch H H' s.heap s'.heap) (hok : HOk X.prog X.w H' s'.heap) (hg : AllBare s'.gens)
    (hch : ∀ b ∈ ch, (b ∈ X.ex ∨ X.s₀.heap.objs.size ≤ b) ∧ b ≠ X.env.locals ∧ (∀ x c, X.env.cells.lookup x = some c → c ≠ b) ∧ ∀ p ∈ X.pn ++ pins, p.1 ≠ b) : Inv X pins σ H' s' := by
  obtain ⟨h', g', d', t', o'⟩ := s'
  have e : o' = s.os := ho
  subst e
  exact I.call (g' := g') (t' := t') (d' := d') u hok hg hch
end
noncomputable abbrev XK := Value → Option Addr → Hp → Prop
noncomputable abbrev St := List (Option V)
noncomputable abbrev VK := V → Hp → Prop
noncomputable abbrev TE := St → Hp → VK → Prop
noncomputable abbrev TT := St → Hp → (Bool → Hp → Prop) → Prop
noncomputable abbrev TA := St → Hp → (List V → Hp → Prop) → Prop
structure Ends where
  nx : St → Hp → Prop
  rt : VK
  bk : St → Hp → Prop := fun _ _ => False
  ct : St → Hp → Prop := fun _ _ => False
noncomputable abbrev TS := Ends → St → Hp → Prop
noncomputable def EP (X : Cx) (pins : List (Addr × Obj)) (σ : St) (Q : VK) (u : Value) (s' : Shared) : Prop := ∃ v H', Inv X pins σ H' s' ∧ RelV v u ∧ Q v H'
noncomputable def TP (X : Cx) (pins : List (Addr × Obj)) (σ : St) (Q : Bool → Hp → Prop) (b : Bool) (s' : Shared) : Prop := ∃ H', Inv X pins σ H' s' ∧ Q b H'
noncomputable def AP (X : Cx) (pins : List (Addr × Obj)) (σ : St) (Q : List V → Hp → Prop) (us : List Value) (s' : Shared) : Prop := ∃ vs H', Inv X pins σ H' s' ∧ Vals vs us ∧ Q vs H'
noncomputable def SP (X : Cx) (pins : List (Addr × Obj)) (D : Ends) (f : Flow) (s' : Shared) : Prop :=
  match f with
  | .next => ∃ σ' H', Inv X pins σ' H' s' ∧ D.nx σ' H'
  | .brk => ∃ σ' H', Inv X pins σ' H' s' ∧ D.bk σ' H'
  | .cont => ∃ σ' H', Inv X pins σ' H' s' ∧ D.ct σ' H'
  | .ret u => ∃ v σ' H', Inv X pins σ' H' s' ∧ RelV v u ∧ D.rt v H'
noncomputable def PE (X : Cx) (e : Expr) (t : TE) : Prop :=
  ∀ (pins : List (Addr × Obj)) (s : Shared) (σ : St) (H : Hp) (Q : VK), Inv X pins σ H s → t σ H Q → wpAny (model X.prog X.w) X.A (eval e X.env) (EP X pins σ Q) X.xe s
noncomputable def PT (X : Cx) (e : Expr) (t : TT) : Prop :=
  ∀ (pins : List (Addr × Obj)) (s : Shared) (σ : St) (H : Hp) (Q : Bool → Hp → Prop), Inv X pins σ H s → t σ H Q → wpAny (model X.prog X.w) X.A (isTrue e X.env (eval e X.env)) (TP X pins σ Q) X.xe s
noncomputable def PW (X : Cx) (e : Expr) (t : TT) : Prop :=
  ∀ (whole : Sem Value) (pins : List (Addr × Obj)) (s : Shared) (σ : St) (H : Hp) (Q : Bool → Hp → Prop), Inv X pins σ H s → t σ H Q → wpAny (model X.prog X.w) X.A (isTrue e X.env whole) (TP X pins σ Q) X.xe s
theorem PW.pt {X : Cx} {e : Expr} {t : TT} (h : PW X e t) : PT X e t := h _
noncomputable def PA (X : Cx) (es : List Expr) (t : TA) : Prop :=
  ∀ (pos : Pos) (pins : List (Addr × Obj)) (s : Shared) (σ : St) (H : Hp) (Q : List V → Hp → Prop), Inv X pins σ H s → t σ H Q → wpAny (model X.prog X.w) X.A (spliced (backTo pos (starEach es X.env))) (AP X pins σ Q) X.xe s
noncomputable def PS (X : Cx) (st : Stmt) (t : TS) : Prop :=
  ∀ (pins : List (Addr × Obj)) (s : Shared) (σ : St) (H : Hp) (D : Ends), Inv X pins σ H s → t D σ H → wpAny (model X.prog X.w) X.A (exec st X.env) (SP X pins D) X.xe s
noncomputable def PSs (X : Cx) (st : List Stmt) (t : TS) : Prop :=
  ∀ (pins : List (Addr × Obj)) (s : Shared) (σ : St) (H : Hp) (D : Ends), Inv X pins σ H s → t D σ H → wpAny (model X.prog X.w) X.A (execs st X.env) (SP X pins D) X.xe s
theorem thn {α : Type} {t : Sem α} {Q Q' : α → Shared → Prop} {M : Model} {A : Around} {E : Value → Shared → Prop} {s : Shared} (h : wpAny M A t Q E s) (hQ : ∀ a s, Q a s → Q' a s) : wpAny M A t Q' E s := wpAny_mono h hQ fun _ _ x => x
end L2
namespace L2
open PySem PySem.Spec PyProof.Rows
section
variable {X : Cx}
noncomputable def tVar (i : Nat) : TE := fun σ H Q => ∃ v, σ[i]? = some (some v) ∧ Q v H
noncomputable def tC (v : V) : TE := fun _ H Q => Q v H
theorem pe_var {i : Nat} {x : Str} {pos : Pos} (hN : X.N[i]? = some x) (hv : Vis X.env.scope x) (hd : (x == ("__debug__" : Str)) = false := by decide) (hcd : (x == ("__classdict__" : Str)) = false := by decide) : PE X (.Name x pos) (tVar i) := by
  intro pins s σ H Q I h
  obtain ⟨v, e, h⟩ := h
  obtain ⟨m, hn, hl⟩ := I.loc
  obtain ⟨u, r, l⟩ := hl i x v hN e hv
  have fin : EP X pins σ Q u s := ⟨v, H, I, r, h⟩
  rcases l with ⟨hk, hm⟩ | ⟨hk, c, hc, hcell⟩
  · exact wpAny_Name (wpAny_loadName_local I.ok.kind hk hn hm fin) hd
  · rcases hk with hk | hk
    · exact wpAny_Name (wpAny_loadName_cell I.ok.kind hk hc hcell fin) hd
    · exact wpAny_Name (wpAny_loadName_free I.ok.kind hk hc hcell fin hcd) hd
theorem pe_int {i j pos} : PE X (.Constant (.int i) j pos) (tC (.int i)) := fun _ _ _ H _ I h => wpAny_Constant_int ⟨.int i, H, I.tok _, ⟨_, rfl⟩, h⟩
theorem pe_non {j pos} : PE X (.Constant .none j pos) (tC .non) := fun _ _ _ H _ I h => Constant_none ⟨.non, H, I, rfl, h⟩
theorem pe_str {x j pos} : PE X (.Constant (.str x) j pos) (tC (.str x)) := fun _ _ _ H _ I h => Calls.Constant_str ⟨.str x, H, I.tok _, ⟨_, rfl⟩, h⟩
noncomputable def Gl (X : Cx) (x : Str) : Prop := X.env.kindOf x = some .globalImplicit
theorem ld_glob {E : Value → Shared → Prop} {pins : List (Addr × Obj)} {s : Shared} {σ : St} {H : Hp} {x : Str} {u : Value} {pos : Pos} {Q : Value → Shared → Prop} (I : Inv X pins σ H s) (hg : Gl X x) (hm : X.mg x = some u) (h : Q u s)
    (hd : (x == ("__debug__" : Str)) = false := by decide) : wpAny (model X.prog X.w) X.A (eval (.Name x pos) X.env) Q E s :=
  Calls.Name_function_global I.ok.kind hg (Calls.loadGlobal_global (by rw [I.ok.glob]; exact I.mod.glob.keeps I.bk) hm h) hd
theorem ld_blt {E : Value → Shared → Prop} {pins : List (Addr × Obj)} {s : Shared} {σ : St} {H : Hp} {x : Str} {u : Value} {pos : Pos} {Q : Value → Shared → Prop} (I : Inv X pins σ H s) (hg : Gl X x) (hm : X.mg x = none) (hv : bootBuiltins x = some u) (h : Q u s)
    (hn : x ≠ "__name__" := by decide) (hd : (x == ("__debug__" : Str)) = false := by decide) : wpAny (model X.prog X.w) X.A (eval (.Name x pos) X.env) Q E s := by
  obtain ⟨mb, h1, h2⟩ := I.mod.blt
  exact Calls.Name_function_global I.ok.kind hg (Calls.loadGlobal_builtin (by rw [I.ok.glob]; exact I.mod.glob.keeps I.bk) hm (by rw [I.ok.blt]; exact h1.keeps I.bk) ((h2 x hn).trans hv) h) hd
variable {a b : Expr} {ta tb : TE} {pos : Pos}
noncomputable def PC (X : Cx) (op : CmpOp) (a b : Expr) (t : TE) : Prop :=
  ∀ (pins : List (Addr × Obj)) (s : Shared) (σ : St) (H : Hp) (Q : VK), Inv X pins σ H s → t σ H Q →
    wpAny (model X.prog X.w) X.A (eval a X.env) (fun v s₁ => wpAny (model X.prog X.w) X.A (eval b X.env) (fun u s₂ => wpAny (model X.prog X.w) X.A (compareOp op v u) (EP X pins σ Q) X.xe s₂) X.xe s₁) X.xe s
noncomputable def tB (t : TE) : TT := fun σ H Q => t σ H fun x H1 => ∃ c, x = .bl c ∧ Q c H1
theorem pt_cmp {op : CmpOp} {t : TE} (h : PC X op a b t) (h1 : behindInMarks op b = false := by first | exact nobehind _ (by decide) (by decide) | rfl) : PT X (.Compare a [op] [b] pos) (tB t) := by
  intro pins s σ H Q I hw
  refine wpAny_isTrue_Compare1 (thn (h pins s σ H _ I hw) fun v s1 h1 => thn h1 fun u s2 h2 => thn h2 fun c s3 ⟨x, H1, I1, r1, q1⟩ => ?_) h1
  obtain ⟨d, rfl, q⟩ := q1
  cases r1
  exact wpAny_truthy_bool ⟨H1, I1, q⟩
theorem pt_val {e : Expr} {t : TE} (h : PE X e t) (he : ∀ whole, isTrue e X.env whole = (do let v ← whole; standAt e.pos; holding [v] (truthy v)) := by intro _; rfl) : PT X e (tB t) := by
  intro pins s σ H Q I hw
  refine isTrue_plain (thn (h pins s σ H _ I hw) fun v s1 ⟨x, H1, I1, r1, q1⟩ => ?_) (he _)
  obtain ⟨d, rfl, q⟩ := q1
  cases r1
  exact wpAny_truthy_bool ⟨H1, I1, q⟩
variable {tA tB' : TT} {rest : List Expr}
noncomputable def tAnd (t u : TT) : TT := fun σ H Q => t σ H fun c H1 => if c = true then u σ H1 Q else Q false H1
noncomputable def tOr (t u : TT) : TT := fun σ H Q => t σ H fun c H1 => if c = true then Q true H1 else u σ H1 Q
theorem pw_and1 (ha : PT X a tA) : PW X (.BoolOp .And [a] pos) tA := by
  intro wh pins s σ H Q I h
  refine isTrue_and (thn (ha pins s σ H Q I h) fun c s1 e => ?_)
  cases c with
  | true => exact isTrue_and_nil e
  | false => exact e
theorem pw_or1 (ha : PT X a tA) : PW X (.BoolOp .Or [a] pos) tA := by
  intro wh pins s σ H Q I h
  refine isTrue_or (thn (ha pins s σ H Q I h) fun c s1 e => ?_)
  cases c with
  | false => exact isTrue_or_nil e
  | true => exact e
theorem pw_and (ha : PT X a tA) (hb : PW X (.BoolOp .And (b :: rest) pos) tB') : PW X (.BoolOp .And (a :: b :: rest) pos) (tAnd tA tB') := by
  intro wh pins s σ H Q I h
  refine isTrue_and (thn (ha pins s σ H _ I h) fun c s1 ⟨H1, I1, q1⟩ => ?_)
  cases c with
  | true => exact hb wh pins s1 σ H1 Q I1 q1
  | false => exact ⟨H1, I1, q1⟩
theorem pw_or (ha : PT X a tA) (hb : PW X (.BoolOp .Or (b :: rest) pos) tB') : PW X (.BoolOp .Or (a :: b :: rest) pos) (tOr tA tB') := by
  intro wh pins s σ H Q I h
  refine isTrue_or (thn (ha pins s σ H _ I h) fun c s1 ⟨H1, I1, q1⟩ => ?_)
  cases c with
  | true => exact ⟨H1, I1, q1⟩
  | false => exact hb wh pins s1 σ H1 Q I1 q1
noncomputable def tOrV (ta tb : TE) : TE := fun σ H Q => ta σ H fun x H1 => ∃ c, x = .bl c ∧ if c = true then Q (.bl true) H1 else tb σ H1 Q
theorem pe_one {op} {t : TE} (h : PE X a t) : PE X (.BoolOp op [a] pos) t := fun pins s σ H Q I hw => BoolOp_one (h pins s σ H Q I hw)
theorem pe_or (ha : PE X a ta) (hb : PE X (.BoolOp .Or (b :: rest) pos) tb) : PE X (.BoolOp .Or (a :: b :: rest) pos) (tOrV ta tb) := by
  intro pins s σ H Q I h
  refine BoolOp_or (thn (ha pins s σ H _ I h) fun v s1 ⟨x, H1, I1, r1, q1⟩ => ?_)
  obtain ⟨c, rfl, q1⟩ := q1
  cases r1
  refine wpAny_truthy_bool ?_
  cases c with
  | false => exact hb pins s1 σ H1 Q I1 q1
  | true => exact ⟨.bl true, H1, I1, rfl, q1⟩
end
end L2
namespace L2
open PySem PySem.Spec PyProof.Rows
noncomputable def SqL (K : PySem.W.Frag) (H : Hp) (a : Addr) (xs : List V) : Prop :=
  Rd H a (.lst xs) ∨
    ∃ (o : Obj) (its : Array Value) (n : Nat), K.lookup a = some o ∧ o.cls = .type "list" ∧ o.dict = none ∧ o.data = .seq its n ∧ its.size ≤ sizeLine ∧ Vals xs its.toList
noncomputable def SqT (K : PySem.W.Frag) (H : Hp) (a : Addr) (xs : List V) : Prop :=
  Rd H a (.tup xs) ∨
    ∃ (o : Obj) (its : Array Value) (n : Nat), K.lookup a = some o ∧ (o.cls = .type "tuple" ∧ o.dict = none) ∧ o.data = .seq its n ∧ its.size ≤ sizeLine ∧ Vals xs its.toList
noncomputable def absV : Value → Option V
  | .none => some .non
  | .bool b => some (.bl b)
  | .int i _ => some (.int i)
  | .str x _ => some (.str x)
  | .bytes b _ => some (.byt b)
  | .float b _ => some (.flt b)
  | .ref a => some (.ref a)
  | .type n => some (.ty n)
  | _ => none
theorem RelV.abs {x : V} {u : Value} (r : RelV x u) : absV u = some x := by
  cases x with
  | non => cases r; rfl
  | bl _ => cases r; rfl
  | int _ => obtain ⟨t, rfl⟩ := r; rfl
  | str _ => obtain ⟨t, rfl⟩ := r; rfl
  | byt _ => obtain ⟨t, rfl⟩ := r; rfl
  | flt _ => obtain ⟨t, rfl⟩ := r; rfl
  | ref _ => cases r; rfl
  | ty _ => cases r; rfl
theorem RelV.inj {x y : V} {u : Value} (r : RelV x u) (q : RelV y u) : x = y := Option.some.inj (r.abs.symm.trans q.abs)
theorem Vals.inj : ∀ {xs ys : List V} {us : List Value}, Vals xs us → Vals ys us → xs = ys
  | _, _, _, .nil, .nil => rfl
  | _, _, _, .cons r t, .cons r' t' => by rw [r.inj r', Vals.inj t t']
section
variable {X : Cx} {pins : List (Addr × Obj)} {σ : St} {H : Hp} {s : Shared} {a : Addr} {xs ys : List V}
theorem SqL.of {K : PySem.W.Frag} (h : H a = some (.lst xs)) : SqL K H a xs := .inl (.inl h)
theorem SqT.of {K : PySem.W.Frag} (h : H a = some (.tup xs)) : SqT K H a xs := .inl (.inl h)
theorem Inv.list (I : Inv X pins σ H s) (h : SqL X.K H a xs) : ∃ its : List Value, Vals xs its ∧ PlainL s.heap a its.toArray ∧ xs.length ≤ sizeLine := by
  rcases h with h | ⟨o, its, n, hk, hc, hd, hs, hz, r⟩
  · obtain ⟨z, its, n, r, e⟩ := h.ok I.hok
    exact ⟨its, r, ⟨_, n, e, rfl, rfl, rfl⟩, z⟩
  · refine ⟨its.toList, r, ⟨o, n, I.kIn a o hk, hc, hd, by simpa using hs⟩, ?_⟩
    have e := r.length
    simp only [Array.length_toList] at e
    omega
theorem Inv.tuple (I : Inv X pins σ H s) (h : SqT X.K H a xs) : ∃ its : List Value, Vals xs its ∧ IsTup s.heap a its.toArray ∧ xs.length ≤ sizeLine := by
  rcases h with h | ⟨o, its, n, hk, hc, hs, hz, r⟩
  · obtain ⟨z, its, r, p⟩ := h.ok I.hok
    exact ⟨its, r, p.tup, z⟩
  · refine ⟨its.toList, r, ⟨o, I.kIn a o hk, hc.1, n, by simpa using hs⟩, ?_⟩
    have e := r.length
    simp only [Array.length_toList] at e
    omega
theorem Inv.list_inj (I : Inv X pins σ H s) (h : SqL X.K H a xs) (h' : SqL X.K H a ys) : xs = ys := by
  obtain ⟨its, r, ⟨o, n, e, _, _, d⟩, _⟩ := I.list h
  obtain ⟨its', r', ⟨o', n', e', _, _, d'⟩, _⟩ := I.list h'
  rw [e] at e'; cases e'
  rw [d] at d'
  injection d' with d1 _
  have : its = its' := by simpa using congrArg Array.toList d1
  subst this
  exact r.inj r'
theorem Inv.tuple_inj (I : Inv X pins σ H s) (h : SqT X.K H a xs) (h' : SqT X.K H a ys) : xs = ys := by
  obtain ⟨its, r, ⟨o, e, _, n, d⟩, _⟩ := I.tuple h
  obtain ⟨its', r', ⟨o', e', _, n', d'⟩, _⟩ := I.tuple h'
  rw [e] at e'; cases e'
  rw [d] at d'
  injection d' with d1 _
  have : its = its' := by simpa using congrArg Array.toList d1
  subst this
  exact r.inj r'
end
noncomputable abbrev Cx.wish (X : Cx) (E : Value → Shared → Prop) : Cx := { X with xe := E }
noncomputable abbrev Cx.nox (X : Cx) : Cx := X.wish fun _ _ => False
theorem Cx.Ok.wish {X : Cx} (ok : X.Ok) (E : Value → Shared → Prop) : (X.wish E).Ok :=
  ⟨ok.mod, ok.kind, ok.glob, ok.blt, ok.above, ok.inj, ok.has, ok.cab, ok.hd, ok.frames, ok.stk, ok.exf, ok.bs, ok.bsz, ok.noex, ok.exfs, ok.funs, ok.frf⟩
theorem Cx.Ok.unwish {X : Cx} {E : Value → Shared → Prop} (ok : (X.wish E).Ok) : X.Ok :=
  ⟨ok.mod, ok.kind, ok.glob, ok.blt, ok.above, ok.inj, ok.has, ok.cab, ok.hd, ok.frames, ok.stk, ok.exf, ok.bs, ok.bsz, ok.noex, ok.exfs, ok.funs, ok.frf⟩
section
variable {X : Cx} {pins : List (Addr × Obj)} {σ : St} {H : Hp} {s : Shared} {E : Value → Shared → Prop}
theorem Inv.wish (I : Inv X pins σ H s) (E : Value → Shared → Prop) : Inv (X.wish E) pins σ H s := ⟨I.ok.wish E, I.os, I.bare, I.base, I.loc, I.cell, I.free, I.freeC, I.pin, I.hok, I.len⟩
theorem Inv.unwish (I : Inv (X.wish E) pins σ H s) : Inv X pins σ H s := ⟨I.ok.unwish, I.os, I.bare, I.base, I.loc, I.cell, I.free, I.freeC, I.pin, I.hok, I.len⟩
theorem SP.unwish {D : Ends} {f : Flow} {s' : Shared} (h : SP (X.wish E) pins D f s') : SP X pins D f s' := by
  cases f with
  | next => obtain ⟨σ', H', I, q⟩ := h; exact ⟨σ', H', I.unwish, q⟩
  | brk => obtain ⟨σ', H', I, q⟩ := h; exact ⟨σ', H', I.unwish, q⟩
  | cont => obtain ⟨σ', H', I, q⟩ := h; exact ⟨σ', H', I.unwish, q⟩
  | ret u => obtain ⟨v, σ', H', I, r, q⟩ := h; exact ⟨v, σ', H', I.unwish, r, q⟩
theorem PSs.nox {st : List Stmt} {t : TS} (h : PSs X.nox st t) : PSs X st t := fun pins s σ H D I hw =>
  wpAny_mono (h pins s σ H D (I.wish _) hw) (fun _ _ q => q.unwish) fun _ _ z => False.elim z
end
section
variable {X : Cx} {st : Stmt} {rest : List Stmt} {t u : TS} {e : Expr} {te : TE} {pos : Pos}
noncomputable def tNext : TS := fun D σ H => D.nx σ H
noncomputable def tSeq (t u : TS) : TS := fun D σ H => t { D with nx := u D } σ H
theorem pss_nil : PSs X [] tNext := fun _ _ σ H _ I h => wpAny_execs_nil ⟨σ, H, I, h⟩
theorem pss_cons (h1 : PS X st t) (h2 : PSs X rest u) : PSs X (st :: rest) (tSeq t u) := by
  intro pins s σ H D I h
  refine wpAny_execs_cons (thn (h1 pins s σ H { D with nx := u D } I h) fun f s1 q => ?_)
  cases f with
  | next =>
    obtain ⟨σ', H', I', q⟩ := q
    exact h2 pins s1 σ' H' D I' q
  | ret v => exact q
  | brk => exact q
  | cont => exact q
theorem pss_one (h1 : PS X st t) : PSs X [st] t := by
  intro pins s σ H D I h
  refine wpAny_execs_cons (thn (h1 pins s σ H D I h) fun f s1 q => ?_)
  cases f with
  | next => exact wpAny_execs_nil q
  | ret v => exact q
  | brk => exact q
  | cont => exact q
theorem Inv.quiet {pins : List (Addr × Obj)} {σ : St} {H : Hp} {s : Shared} (I : Inv X pins σ H s) : interactive X.env = false := by simp [interactive, I.ok.kind]
noncomputable def tDrop (te : TE) : TS := fun D σ H => te σ H fun _ H1 => D.nx σ H1
theorem ps_expr (he : PE X e te) (hs : swapsWith e none pos.line X.env = pure false := by rfl) : PS X (.Expr e pos) (tDrop te) := by
  intro pins s σ H D I h
  exact wpAny_Expr_any (thn (he pins s σ H _ I h) fun v s1 ⟨x, H1, I1, r1, q1⟩ => ⟨σ, H1, I1, q1⟩) I.quiet hs
noncomputable def tRet (te : TE) : TS := fun D σ H => te σ H D.rt
theorem ps_ret (he : PE X e te) : PS X (.Return (some e) pos) (tRet te) := by
  intro pins s σ H D I h
  exact wpAny_Return_some (thn (he pins s σ H _ I h) fun v s1 ⟨x, H1, I1, r1, q1⟩ => ⟨x, σ, H1, I1, r1, q1⟩)
noncomputable def tIfS (c : TT) (t u : TS) : TS := fun D σ H => c σ H fun b H1 => if b = true then t D σ H1 else u D σ H1
theorem ps_if {c : Expr} {a b : List Stmt} {tc : TT} (hc : PT X c tc) (ha : PSs X a t) (hb : PSs X b u) : PS X (.If c a b pos) (tIfS tc t u) := by
  intro pins s σ H D I h
  refine wpAny_If (thn (hc pins s σ H _ I h) fun d s1 ⟨H1, I1, q1⟩ => ?_)
  cases d with
  | true => exact ha pins s1 σ H1 D I1 q1
  | false => exact hb pins s1 σ H1 D I1 q1
end
noncomputable abbrev TG := V → St → Hp → (St → Hp → Prop) → Prop
noncomputable abbrev TGs := List V → St → Hp → (St → Hp → Prop) → Prop
noncomputable def PG (X : Cx) (target : Expr) (t : TG) : Prop :=
  ∀ (pins : List (Addr × Obj)) (s : Shared) (σ : St) (H : Hp) (v : V) (u : Value) (Q : St → Hp → Prop), Inv X pins σ H s → RelV v u → t v σ H Q →
    wpAny (model X.prog X.w) X.A (assign target X.env u) (fun _ s' => ∃ σ' H', Inv X pins σ' H' s' ∧ Q σ' H') X.xe s
noncomputable def PGs (X : Cx) (ts : List Expr) (t : TGs) : Prop :=
  ∀ (pins : List (Addr × Obj)) (s : Shared) (σ : St) (H : Hp) (vs : List V) (us : List Value) (Q : St → Hp → Prop), Inv X pins σ H s → Vals vs us → t vs σ H Q →
    wpAny (model X.prog X.w) X.A (assignInOrder ((assignEach ts X.env).map (·.2)) us) (fun _ s' => ∃ σ' H', Inv X pins σ' H' s' ∧ Q σ' H') X.xe s
section
variable {X : Cx} {pos : Pos}
noncomputable def gName (i : Nat) : TG := fun v σ H Q => Q (σ.set i (some v)) H
theorem pg_name {i : Nat} {x : Str} (hN : X.N.Nodup) (hi : X.N[i]? = some x) (hx : Loc X.env.scope x) (hf : X.fn x = true ∨ X.env.scope.names.lookup x = some .local := by first | exact .inl rfl | exact .inr rfl | assumption) : PG X (.Name x pos) (gName i) := by
  intro pins s σ H v u Q I r h
  exact wpAny_assign_Name (store_ok I hN hi hx r (fun s' I' => ⟨_, H, I', h⟩) hf)
noncomputable def gNil : TGs := fun vs σ H Q => vs = [] ∧ Q σ H
noncomputable def gCons (t : TG) (u : TGs) : TGs := fun vs σ H Q => ∃ v r, vs = v :: r ∧ t v σ H fun σ' H' => u r σ' H' Q
theorem pgs_nil : PGs X [] gNil := by
  intro pins s σ H vs us Q I r h
  obtain ⟨e, h⟩ := h
  subst e
  cases r
  exact assignInOrder_nil ⟨σ, H, I, h⟩
theorem pgs_cons {e : Expr} {es : List Expr} {t : TG} {u : TGs} (h1 : PG X e t) (h2 : PGs X es u)
    (hs : (assignEach (e :: es) X.env).map (·.2) = assign e X.env :: (assignEach es X.env).map (·.2) := by rfl) : PGs X (e :: es) (gCons t u) := by
  intro pins s σ H vs us Q I r h
  obtain ⟨v, vr, e1, h⟩ := h
  subst e1
  cases r with
  | cons r rr =>
    rw [hs]
    refine assignInOrder_cons (thn (h1 pins s σ H _ _ _ I r h) fun _ s1 ⟨σ1, H1, I1, q1⟩ => ?_)
    exact h2 pins s1 σ1 H1 _ _ Q I1 rr q1
noncomputable def gTup (K : PySem.W.Frag) (n : Nat) (t : TGs) : TG := fun v σ H Q => ∃ a xs, v = .ref a ∧ SqT K H a xs ∧ xs.length = n ∧ t xs σ H Q
theorem pg_tup {es : List Expr} {k : Nat} {t : TGs} {n : Nat} (hc : X.calm = true) (h : PGs X es t)
    (hn : (assignEach es X.env).length = n := by rfl) (hst : (assignEach es X.env).findIdx? (·.1) = none := by rfl) : PG X (.Tuple es k pos) (gTup X.K n t) := by
  intro pins s σ H v u Q I r hw
  obtain ⟨a, xs, e1, hq, hl, hw⟩ := hw
  subst e1
  cases r
  obtain ⟨its, rv, ht, hz⟩ := I.tuple hq
  refine assign_Tuple_tuple (I.ok.hd hc) ht (by simp [hn, ← hl, rv.length]) hst fun h' hx => ?_
  have I1 : Inv X pins σ H { s with heap := h' } := I.kept (t' := s.toks) fun b o e => hx b o (Nat.ne_of_lt (Heap.lt_size e)) e
  exact h pins _ σ H xs _ Q I1 (by simpa using rv) hw
noncomputable def tAsg (te : TE) (g : TG) : TS := fun D σ H => te σ H fun x H1 => g x σ H1 D.nx
theorem ps_set {i : Nat} {x : Str} {e : Expr} {te : TE} {pos' : Pos} (hN : X.N.Nodup) (hi : X.N[i]? = some x) (hx : Loc X.env.scope x) (he : PE X e te) (hs : swapsWith e (some (.Name x pos')) pos.line X.env = pure false := by rfl) (hf : X.fn x = true ∨ X.env.scope.names.lookup x = some .local := by first | exact .inl rfl | exact .inr rfl | assumption) :
    PS X (.Assign [.Name x pos'] e pos) (tAsg te (gName i)) := by
  intro pins s σ H D I h
  refine wpAny_Assign_Name (thn (he pins s σ H _ I h) fun v s1 ⟨y, H1, I1, r1, q1⟩ => ?_) hs
  exact store_ok I1 hN hi hx r1 (fun s2 I2 => ⟨_, H1, I2, q1⟩) hf
end
section
variable {X : Cx} {pos : Pos}
noncomputable def tWhile (c : TT) (tb : TS) : TS := fun D σ H => ∃ W : Nat → St → Hp → Prop, (∃ m, W m σ H) ∧ ∀ m σ H, W m σ H →
  c σ H fun b H1 => if b = true then ∃ N : St → Hp → Prop, (∀ σ' H', N σ' H' → ∃ m', m' < m ∧ W m' σ' H') ∧ tb { D with nx := N, ct := N, bk := D.nx } σ H1 else D.nx σ H1
theorem ps_while {c : Expr} {body : List Stmt} {tc : TT} {tb : TS} (hp : PassesOwn (model X.prog X.w) X.A X.env X.xe) (hc : PT X c tc) (hb : PSs X body tb) : PS X (.While c body [] pos) (tWhile tc tb) := by
  intro pins s σ H D I h
  obtain ⟨W, ⟨m0, w0⟩, turn⟩ := h
  refine wpAny_While (codeAny_whileLoop (fun n s' => ∃ σ' H', Inv X pins σ' H' s' ∧ W n σ' H') ?_ m0 ⟨σ, H, I, w0⟩)
  rintro n s1 ⟨σ1, H1, I1, w1⟩
  refine wpAny_passesOwn hp (thn (hc pins s1 σ1 H1 _ I1 (turn n σ1 H1 w1)) fun b s2 ⟨H2, I2, q2⟩ => ?_)
  cases b with
  | true =>
    obtain ⟨N, hN, q2⟩ := q2
    rw [if_pos rfl]
    refine wpAny_passesOwn hp (thn (hb pins s2 σ1 H2 _ I2 q2) fun f s3 q3 => ?_)
    cases f with
    | next =>
      obtain ⟨σ3, H3, I3, n3⟩ := q3
      obtain ⟨m', hm, w3⟩ := hN σ3 H3 n3
      exact ⟨m', hm, σ3, H3, I3, w3⟩
    | cont =>
      obtain ⟨σ3, H3, I3, n3⟩ := q3
      obtain ⟨m', hm, w3⟩ := hN σ3 H3 n3
      exact ⟨m', hm, σ3, H3, I3, w3⟩
    | brk => exact q3
    | ret v => exact q3
  | false =>
    rw [if_neg Bool.false_ne_true]
    exact wpAny_execs_nil ⟨σ1, H2, I2, q2⟩
end
structure It where
  go : Nat → Hp → Prop
  yld : Nat → Hp → V → Hp → Prop
  stop : Nat → Hp → Prop
noncomputable def FpOk (X : Cx) (pins : List (Addr × Obj)) (H : Hp) (b : Addr) : Prop :=
  H b = none ∧ b ≠ X.env.locals ∧ b ∉ X.fs ∧ (b ∈ X.ex ∨ X.s₀.heap.objs.size ≤ b) ∧ (∀ x c, X.env.cells.lookup x = some c → c ≠ b) ∧ ∀ p ∈ X.pn ++ pins, p.1 ≠ b
theorem Inv.fpOk {X : Cx} {pins : List (Addr × Obj)} {σ : St} {H H' : Hp} {s : Shared} {b : Addr} (I : Inv X pins σ H s) (hb : s.heap.objs.size ≤ b) (hn : H' b = none) : FpOk X pins H' b := by
  refine ⟨hn, Nat.ne_of_gt (Nat.lt_of_lt_of_le I.lt hb), I.nofs hb, .inr (Nat.le_trans I.sz hb), fun x c e z => ?_, fun p hp z => ?_⟩
  · obtain ⟨v, q⟩ := I.cell x c e
    exact absurd (Nat.lt_of_lt_of_le q.lt (by rw [z]; exact hb)) (Nat.lt_irrefl _)
  · exact absurd (Nat.lt_of_lt_of_le (Heap.lt_size (I.pin p hp).1) (by rw [z]; exact hb)) (Nat.lt_irrefl _)
structure Turn (P : Program) (w : World) (K : PySem.W.Frag) (tg : Expr) (J : It) (fp : List Addr) (it : Addr) (tn : Nat → Heap → Prop) : Prop where
  mem : it ∈ fp
  obj : ∀ i h, tn i h → ∀ b ∈ fp, ∃ o, h.get? b = some o ∧ ∀ v, o.data ≠ .cell v
  keep : ∀ i h h', tn i h → (∀ b ∈ fp, ∀ o, h.get? b = some o → h'.get? b = some o) → tn i h'
  item : ∀ (X : Cx), X.prog = P → X.w = w → X.K = K → X.calm = true → ∀ (i : Nat) (pins : List (Addr × Obj)) (s : Shared) (σ : St) (H : Hp) (E : Value → Shared → Prop), Inv X pins σ H s → (∀ b ∈ fp, FpOk X pins H b) → tn i s.heap → J.go i H →
    wpAny (model P w) X.A (pyNext (.ref it)) (fun r s1 => ∃ u, r = some u ∧
      wpAny (model P w) X.A (letOwnedTupleGo tg (.ref it) u) (fun _ s2 => ∃ x H', Inv X pins σ H' s2 ∧ RelV x u ∧ J.yld i H x H' ∧ tn (i + 1) s2.heap ∧ ∀ b ∈ fp, H' b = none) E s1) E s
  done : ∀ (X : Cx), X.prog = P → X.w = w → X.K = K → X.calm = true → ∀ (i : Nat) (pins : List (Addr × Obj)) (s : Shared) (σ : St) (H : Hp) (E : Value → Shared → Prop), Inv X pins σ H s → (∀ b ∈ fp, FpOk X pins H b) → tn i s.heap → J.stop i H →
    wpAny (model P w) X.A (pyNext (.ref it)) (fun r s1 => r = none ∧ Inv X pins σ H s1) E s
  self : ∀ (A : Around) (i : Nat) (s : Shared) (Q : Value → Shared → Prop) (E : Value → Shared → Prop), tn i s.heap → Q (.ref it) s → wpAny (model P w) A (pyIter (.ref it)) Q E s
noncomputable abbrev TI := St → Hp → (It → Hp → Prop) → Prop
noncomputable def PIE (X : Cx) (pins : List (Addr × Obj)) (σ : St) (tg : Expr) (R : It → Hp → Prop) (itv : Value) (s2 : Shared) : Prop :=
  ∃ (it : Addr) (fp : List Addr) (tn : Nat → Heap → Prop) (J : It) (H' : Hp), itv = .ref it ∧ Inv X pins σ H' s2 ∧ Turn X.prog X.w X.K tg J fp it tn ∧ tn 0 s2.heap ∧ (∀ b ∈ fp, FpOk X pins H' b) ∧ R J H'
noncomputable def PI (X : Cx) (tg iter : Expr) (wi : TI) : Prop :=
  ∀ (pins : List (Addr × Obj)) (s : Shared) (σ : St) (H : Hp) (R : It → Hp → Prop), Inv X pins σ H s → wi σ H R →
    wpAny (model X.prog X.w) X.A (eval iter X.env) (fun v s1 => wpAny (model X.prog X.w) X.A (pyIter v) (PIE X pins σ tg R) X.xe s1) X.xe s
theorem go_of {M : Model} {A : Around} {E : Value → Shared → Prop} {s : Shared} {tg : Expr} {it : Addr} {u : Value} {o : Obj} {n : String} {vs : Array Value} {Q : Unit → Shared → Prop} (ho : s.heap.get? it = some o) (hc : o.cls = .type n) (hd : o.data = .fields vs)
    (hn : ["enumerate", "zip", "dict_itemiterator", "dict_reverseitemiterator", "odict_iterator", "itertools.zip_longest", "itertools.pairwise"].contains n = false) (hQ : Q () s) : wpAny M A (letOwnedTupleGo tg (.ref it) u) Q E s := by
  unfold letOwnedTupleGo
  cases tg <;> first
    | exact wpAny_pure hQ
    | (cases u <;> first
        | exact wpAny_pure hQ
        | (refine wpAny_bind (wpAny_load ho ?_)
           rw [hc, hd]
           show wpAny M A (if (["enumerate", "zip", "dict_itemiterator", "dict_reverseitemiterator", "odict_iterator", "itertools.zip_longest", "itertools.pairwise"].contains n && vs[0]? == some (rawInt _)) = true then _ else _) Q E s
           rw [if_neg (by intro h; rw [hn, Bool.false_and] at h; cases h)]
           exact wpAny_pure hQ))
noncomputable def Itl (K : PySem.W.Frag) (a : Addr) : It :=
  ⟨fun i H => ∃ xs x, SqL K H a xs ∧ xs[i]? = some x, fun i H x H' => H' = H ∧ ∀ xs, SqL K H a xs → xs[i]? = some x, fun i H => ∃ xs, SqL K H a xs ∧ xs.length ≤ i⟩
noncomputable def Itt (K : PySem.W.Frag) (a : Addr) : It :=
  ⟨fun i H => ∃ xs x, SqT K H a xs ∧ xs[i]? = some x, fun i H x H' => H' = H ∧ ∀ xs, SqT K H a xs → xs[i]? = some x, fun i H => ∃ xs, SqT K H a xs ∧ xs.length ≤ i⟩
noncomputable def Itr (lo : Int) (n : Nat) : It := ⟨fun i _ => i < n, fun i H x H' => H' = H ∧ x = .int (lo + i), fun i _ => n ≤ i⟩
theorem turn_list {P : Program} {w : World} {K : PySem.W.Frag} {tg : Expr} (a it : Addr) : Turn P w K tg (Itl K a) [it] it (fun i h => h.IsListIter it a i) where
  mem := by simp
  obj := fun i h st b hb => by
    have e : b = it := by simpa using hb
    subst e
    obtain ⟨o, e, c, d⟩ := st
    exact ⟨o, e, fun v z => by rw [d] at z; cases z⟩
  keep := fun i h h' st k => st.at fun o e => k it (by simp) o e
  item := by
    intro X hP hw hK hc i pins s σ H E I hf st hg
    subst hP hw hK
    obtain ⟨xs, x, hq, hx⟩ := hg
    obtain ⟨its, rv, p, hz⟩ := I.list hq
    obtain ⟨u, hu, ru⟩ := rv.get hx
    obtain ⟨f0, f1, f2, f3, f4, f5⟩ := hf it (by simp)
    refine wpAny_pyNext_list_item st p.isList (x := u) (by simpa using hu) fun h' st' sb => ?_
    have I1 : Inv X pins σ H { s with heap := h' } := I.turned (t' := s.toks) (fun b o hb e => (sb.2 b hb).trans e) f0 f1 f3 f4 f5
    obtain ⟨o, e, c, d⟩ := id st'
    exact ⟨u, rfl, go_of (s := { s with heap := h' }) e c d (by decide) ⟨x, H, I1, ru, ⟨rfl, fun ys hy => by rw [I.list_inj hy hq]; exact hx⟩, st', fun b hb => (hf b hb).1⟩⟩
  done := by
    intro X hP hw hK hc i pins s σ H E I hf st hg
    subst hP hw hK
    obtain ⟨xs, hq, hx⟩ := hg
    obtain ⟨its, rv, p, hz⟩ := I.list hq
    obtain ⟨f0, f1, f2, f3, f4, f5⟩ := hf it (by simp)
    have hl := rv.length
    exact wpAny_pyNext_list_end (I.ok.hd hc) st p.isList (by simp; omega) fun h' eb => ⟨rfl, I.turned (t' := s.toks) (fun b o hb e => eb b o hb e) f0 f1 f3 f4 f5⟩
  self := fun _ _ _ _ _ st h => wpAny_pyIter_listiter st h
theorem turn_tuple {P : Program} {w : World} {K : PySem.W.Frag} {tg : Expr} (a it : Addr) : Turn P w K tg (Itt K a) [it] it (fun i h => h.IsTupleIter it a i) where
  mem := by simp
  obj := fun i h st b hb => by
    have e : b = it := by simpa using hb
    subst e
    obtain ⟨o, e, c, d⟩ := st
    exact ⟨o, e, fun v z => by rw [d] at z; cases z⟩
  keep := fun i h h' st k => st.at fun o e => k it (by simp) o e
  item := by
    intro X hP hw hK hc i pins s σ H E I hf st hg
    subst hP hw hK
    obtain ⟨xs, x, hq, hx⟩ := hg
    obtain ⟨its, rv, p, hz⟩ := I.tuple hq
    obtain ⟨u, hu, ru⟩ := rv.get hx
    obtain ⟨f0, f1, f2, f3, f4, f5⟩ := hf it (by simp)
    refine wpAny_pyNext_tuple_item st (show s.heap.IsTuple a its.toArray from p) (x := u) (by simpa using hu) fun h' st' sb => ?_
    have I1 : Inv X pins σ H { s with heap := h' } := I.turned (t' := s.toks) (fun b o hb e => (sb.2 b hb).trans e) f0 f1 f3 f4 f5
    obtain ⟨o, e, c, d⟩ := id st'
    exact ⟨u, rfl, go_of (s := { s with heap := h' }) e c d (by decide) ⟨x, H, I1, ru, ⟨rfl, fun ys hy => by rw [I.tuple_inj hy hq]; exact hx⟩, st', fun b hb => (hf b hb).1⟩⟩
  done := by
    intro X hP hw hK hc i pins s σ H E I hf st hg
    subst hP hw hK
    obtain ⟨xs, hq, hx⟩ := hg
    obtain ⟨its, rv, p, hz⟩ := I.tuple hq
    obtain ⟨f0, f1, f2, f3, f4, f5⟩ := hf it (by simp)
    have hl := rv.length
    exact wpAny_pyNext_tuple_end (I.ok.hd hc) st (show s.heap.IsTuple a its.toArray from p) (by simp; omega) fun h' eb => ⟨rfl, I.turned (t' := s.toks) (fun b o hb e => eb b o hb e) f0 f1 f3 f4 f5⟩
  self := fun _ _ _ _ _ st h => wpAny_pyIter_tupleiter st h
theorem turn_range {P : Program} {w : World} {K : PySem.W.Frag} {tg : Expr} (it : Addr) (lo : Int) (n : Nat) : Turn P w K tg (Itr lo n) [it] it (fun i h => IsRangeIter h it (lo + (i : Nat) * 1) ((n : Int) - (i : Nat)) 1) where
  mem := by simp
  obj := fun i h st b hb => by
    have e : b = it := by simpa using hb
    subst e
    exact ⟨_, st, fun v z => by
      have z' : Data.fields _ = Data.cell v := z
      cases z'⟩
  keep := fun i h h' st k => k it (by simp) _ st
  item := by
    intro X hP hw hK hc i pins s σ H E I hf st hg
    subst hP hw hK
    obtain ⟨f0, f1, f2, f3, f4, f5⟩ := hf it (by simp)
    have W := Walks.range (prog := X.prog) (w := X.w) (I.ok.hd hc) it lo 1 n
    refine W.item i s _ _ hg st fun v h' tk hv st' kk => ?_
    obtain ⟨t, rfl⟩ := hv
    have I1 : Inv X pins σ H { s with heap := h', toks := tk } := I.turned (fun b o hb e => kk b o (by simpa using hb) e) f0 f1 f3 f4 f5
    refine ⟨_, rfl, go_of (s := { s with heap := h', toks := tk }) (n := "range_iterator") st' rfl rfl (by decide) ⟨.int (lo + i), H, I1, ⟨t, ?_⟩, ⟨rfl, rfl⟩, st', fun b hb => (hf b hb).1⟩⟩
    rw [Int.mul_one]
  done := by
    intro X hP hw hK hc i pins s σ H E I hf st hg
    subst hP hw hK
    obtain ⟨f0, f1, f2, f3, f4, f5⟩ := hf it (by simp)
    exact wpAny_pyNext_range_end (I.ok.hd hc) st (by have : n ≤ i := hg; omega) fun h' eb => ⟨rfl, I.turned (t' := s.toks) (fun b o hb e => eb b o hb e) f0 f1 f3 f4 f5⟩
  self := fun _ _ _ _ _ st h => wpAny_pyIter_rangeiter st h
end L2
namespace L2
open PySem PySem.Spec PyProof.Rows
section
variable {X : Cx} {tg : Expr}
theorem range_it {pins : List (Addr × Obj)} {σ : St} {H : Hp} {s : Shared} {R : It → Hp → Prop} {E : Value → Shared → Prop} {lo hi : Int} {t u v : Tok} {tk : Nat} (I : Inv X pins σ H s) (h1 : -(2 ^ 62) ≤ lo) (h2 : lo < 2 ^ 62) (h3 : -(2 ^ 62) ≤ hi) (h4 : hi < 2 ^ 62)
    (q : R (Itr lo (hi - lo).toNat) H) : wpAny (model X.prog X.w) X.A (pyIter (.ref s.heap.objs.size)) (PIE X pins σ tg R) E { s with heap := s.heap.push { cls := .type "range", data := .fields #[.int lo t, .int hi u, .int 1 v] }, toks := tk } := by
  refine wpAny_pyIter_range (IsRange.new ..) (small_one h1 h2 h3 h4) ?_
  have I1 : Inv X pins σ H { s with heap := s.heap.push { cls := .type "range", data := .fields #[.int lo t, .int hi u, .int 1 v] }, toks := tk } := I.kept fun b o e => Heap.get?_push_of_some _ e
  refine ⟨(s.heap.push { cls := .type "range", data := .fields #[.int lo t, .int hi u, .int 1 v] }).objs.size, [(s.heap.push { cls := .type "range", data := .fields #[.int lo t, .int hi u, .int 1 v] }).objs.size], _, _, H, rfl,
    I1.kept (t' := tk) fun b o e => Heap.get?_push_of_some _ e, turn_range _ lo (hi - lo).toNat, ?_, fun b hb => ?_, q⟩
  · have e1 : lo + ((0 : Nat) : Int) * 1 = lo := by simp
    have e2 : (((hi - lo).toNat : Nat) : Int) - ((0 : Nat) : Int) = Builtin.Range.rangeSize lo hi 1 := by rw [rangeSize_one]; split <;> omega
    show IsRangeIter _ _ (lo + ((0 : Nat) : Int) * 1) ((((hi - lo).toNat : Nat) : Int) - ((0 : Nat) : Int)) 1
    rw [e1, e2]
    exact Heap.get?_push_size _ rfl
  · have e : b = (s.heap.push { cls := .type "range", data := .fields #[.int lo t, .int hi u, .int 1 v] }).objs.size := by simpa using hb
    subst e
    exact I1.fpOk (Nat.le_refl _) (I1.hok.fresh (Nat.le_refl _))
noncomputable def iRng1 (ta : TA) : TI := fun σ H R => ta σ H fun vs H1 => ∃ j : Int, vs = [.int j] ∧ -(2 ^ 62) ≤ j ∧ j < 2 ^ 62 ∧ R (Itr 0 j.toNat) H1
theorem pi_range1 {a : Expr} {ta : TA} {p pos : Pos} (hg : Gl X "range") (hm : X.mg "range" = none) (ha : PA X [a] ta) (hs : starEach [a] X.env = [(false, eval a X.env)] := by rfl) : PI X tg (.Call (.Name "range" p) [a] [] pos) (iRng1 ta) := by
  intro pins s σ H R I h
  refine Call_ (ld_blt I hg hm boot_range (PyProof.Rows.callWith_type1 (thn (ha pos pins s σ H _ I h) fun us s1 ⟨vs, H1, I1, r1, q1⟩ => ?_) hs rfl))
  obtain ⟨j, e, q1, q2, q⟩ := q1
  subst e
  cases r1 with
  | cons r rr =>
    cases rr
    obtain ⟨t, rfl⟩ := r
    exact call_range_1 (range_it I1 (by omega) (by omega) q1 q2 (by simpa using q))
noncomputable def tFor (wi : TI) (g : TG) (tb : TS) : TS := fun D σ H => wi σ H fun J H1 => ∃ W : Nat → Nat → St → Hp → Prop, (∃ m, W 0 m σ H1) ∧ ∀ i m σ H, W i m σ H →
  (J.stop i H ∧ D.nx σ H) ∨ (J.go i H ∧ ∃ N : St → Hp → Prop, (∀ σ' H', N σ' H' → ∃ m', m' < m ∧ W (i + 1) m' σ' H') ∧ ∀ x H', J.yld i H x H' → g x σ H' fun σ2 H2 => tb { D with nx := N, ct := N, bk := D.nx } σ2 H2)
noncomputable def pinsAt (fp : List Addr) (h : Heap) : List (Addr × Obj) := fp.filterMap fun b => (h.get? b).map fun o => (b, o)
theorem mem_pinsAt {fp : List Addr} {h : Heap} {b : Addr} {o : Obj} (hb : b ∈ fp) (e : h.get? b = some o) : (b, o) ∈ pinsAt fp h := List.mem_filterMap.mpr ⟨b, hb, by rw [e]; rfl⟩
theorem of_pinsAt {fp : List Addr} {h : Heap} {p : Addr × Obj} (hp : p ∈ pinsAt fp h) : p.1 ∈ fp ∧ h.get? p.1 = some p.2 := by
  obtain ⟨b, hb, e⟩ := List.mem_filterMap.mp hp
  cases q : h.get? b with
  | none => rw [q] at e; cases e
  | some o =>
    rw [q] at e
    have e' : (b, o) = p := Option.some.inj e
    subst e'
    exact ⟨hb, q⟩
theorem Inv.pinned {pins : List (Addr × Obj)} {σ : St} {H : Hp} {s : Shared} {fp : List Addr} (I : Inv X pins σ H s) (hf : ∀ b ∈ fp, FpOk X pins H b) (ho : ∀ b ∈ fp, ∃ o, s.heap.get? b = some o ∧ ∀ v, o.data ≠ .cell v) : Inv X (pins ++ pinsAt fp s.heap) σ H s :=
  I.pins_of fun p hp => (List.mem_append.mp hp).elim (fun z => I.pin p (List.mem_append_right _ z)) fun z => by
    obtain ⟨hb, e⟩ := of_pinsAt z
    obtain ⟨f0, f1, f2, _⟩ := hf p.1 hb
    obtain ⟨o, e', d⟩ := ho p.1 hb
    rw [e] at e'; cases e'
    exact ⟨e, f0, f1, f2, d⟩
theorem Inv.unpinned {pins pl : List (Addr × Obj)} {σ : St} {H : Hp} {s : Shared} (I : Inv X (pins ++ pl) σ H s) : Inv X pins σ H s := I.pins_of fun p hp => I.pin p (List.mem_append_right _ (List.mem_append_left _ hp))
theorem ps_for {iter : Expr} {body : List Stmt} {wi : TI} {g : TG} {tb : TS} {pos : Pos} (hp : PassesOwn (model X.prog X.w) X.A X.env X.xe) (hc : X.calm = true) (hi : PI X tg iter wi) (hg : PG X tg g) (hb : PSs X body tb)
    (hs : ∀ x, foldedSetIterable iter X.env x = pure x := by intro _; rfl) : PS X (.For tg iter body [] pos) (tFor wi g tb) := by
  intro pins s σ H D I h
  refine wpAny_For (thn (hi pins s σ H _ I h) fun v s1 h1 => thn h1 fun itv s2 h2 => ?_) hs
  obtain ⟨it, fp, tn, J, H2, e, I2, T, st2, f2, W, ⟨m0, w0⟩, turn⟩ := h2
  subst e
  -- what stays true of the iterator's objects through the loop
  have stat : ∀ {H' : Hp}, (∀ b ∈ fp, H' b = none) → ∀ b ∈ fp, FpOk X pins H' b := fun hn b hb => ⟨hn b hb, (f2 b hb).2⟩
  refine codeAny_forLoop_any (fun n s' => ∃ i σ' H', Inv X pins σ' H' s' ∧ tn i s'.heap ∧ (∀ b ∈ fp, H' b = none) ∧ W i n σ' H') ?_ m0 ⟨0, σ, H2, I2, st2, fun b hb => (f2 b hb).1, w0⟩
  rintro n s3 ⟨i, σ3, H3, I3, st3, fr3, w3⟩
  rcases turn i n σ3 H3 w3 with ⟨stop, qn⟩ | ⟨go, N, hN, step⟩
  · refine wpAny_passesOwn hp (thn (T.done X rfl rfl rfl hc i pins s3 σ3 H3 X.xe I3 (stat fr3) st3 stop) fun r s4 ⟨hr, I4⟩ => ?_)
    subst hr
    exact wpAny_execs_nil ⟨σ3, H3, I4, qn⟩
  · refine wpAny_passesOwn hp (thn (T.item X rfl rfl rfl hc i pins s3 σ3 H3 X.xe I3 (stat fr3) st3 go) fun r s4 ⟨u, hr, h4⟩ => ?_)
    subst hr
    refine wpAny_passesOwn hp (thn h4 fun _ s5 ⟨x, H5, I5, r5, y5, st5, fr5⟩ => ?_)
    have I5' := I5.pinned (stat fr5) (T.obj _ _ st5)
    refine wpAny_passesOwn hp (thn (hg _ s5 σ3 H5 x u _ I5' r5 (step x H5 y5)) fun _ s6 ⟨σ6, H6, I6, q6⟩ => ?_)
    refine wpAny_passesOwn hp (thn (hb _ s6 σ6 H6 _ I6 q6) fun f s7 q7 => ?_)
    have again : ∀ {σ7 : St} {H7 : Hp}, Inv X (pins ++ pinsAt fp s5.heap) σ7 H7 s7 → N σ7 H7 → ∃ m, m < n ∧ ∃ i σ' H', Inv X pins σ' H' s7 ∧ tn i s7.heap ∧ (∀ b ∈ fp, H' b = none) ∧ W i m σ' H' := fun {σ7 H7} I7 n7 => by
      obtain ⟨m', hm, w7⟩ := hN σ7 H7 n7
      refine ⟨m', hm, i + 1, σ7, H7, I7.unpinned, T.keep _ _ _ st5 fun b hb o e => (I7.pin (b, o) (List.mem_append_right _ (List.mem_append_right _ (mem_pinsAt hb e)))).1, fun b hb => ?_, w7⟩
      obtain ⟨o, e, d⟩ := T.obj _ _ st5 b hb
      exact (I7.pin (b, o) (List.mem_append_right _ (List.mem_append_right _ (mem_pinsAt hb e)))).2.1
    cases f with
    | next => obtain ⟨σ7, H7, I7, n7⟩ := q7; exact again I7 n7
    | cont => obtain ⟨σ7, H7, I7, n7⟩ := q7; exact again I7 n7
    | brk => obtain ⟨σ7, H7, I7, q7⟩ := q7; exact ⟨σ7, H7, I7.unpinned, q7⟩
    | ret v => obtain ⟨x7, σ7, H7, I7, r7, q7⟩ := q7; exact ⟨x7, σ7, H7, I7.unpinned, r7, q7⟩
end
end L2
namespace L2
open PySem PySem.Spec PyProof.Rows
noncomputable abbrev R2 := V → V → Hp → VK → Prop
noncomputable def OpR (X : Cx) (f : Value → Value → Sem Value) (r : R2) : Prop :=
  ∀ (pins : List (Addr × Obj)) (s : Shared) (σ : St) (H : Hp) (x y : V) (v u : Value) (Q : VK), Inv X pins σ H s → RelV x v → RelV y u → r x y H Q →
    wpAny (model X.prog X.w) X.A (f v u) (EP X pins σ Q) X.xe s
noncomputable def CallR (X : Cx) (f : Value) (r : List V → Hp → VK → Prop) : Prop :=
  ∀ (pins : List (Addr × Obj)) (s : Shared) (σ : St) (H : Hp) (xs : List V) (us : List Value) (Q : VK), Inv X pins σ H s → Vals xs us → r xs H Q →
    wpAny (model X.prog X.w) X.A (call f us) (EP X pins σ Q) X.xe s
noncomputable def tOp (r : R2) (ta tb : TE) : TE := fun σ H Q => ta σ H fun x H1 => tb σ H1 fun y H2 => r x y H2 Q
noncomputable def rI (C : Int → Int → Prop) (g : Int → Int → V) : R2 := fun x y H Q => ∃ i j, x = .int i ∧ y = .int j ∧ C i j ∧ Q (g i j) H
noncomputable def rI0 (g : Int → Int → V) : R2 := fun x y H Q => ∃ i j, x = .int i ∧ y = .int j ∧ Q (g i j) H
section
variable {X : Cx} {a b c : Expr} {ta tb tc : TE} {pos : Pos}
theorem binT (ha : PE X a ta) (hb : PE X b tb) {pins : List (Addr × Obj)} {s : Shared} {σ : St} {H : Hp} {R : V → V → Hp → Prop} (I : Inv X pins σ H s)
    (h : ta σ H fun x H1 => tb σ H1 fun y H2 => R x y H2) {Q : Value → Shared → Prop} {f : Value → Value → Sem Value}
    (hf : ∀ v u s2 x y H2, Inv X pins σ H2 s2 → RelV x v → RelV y u → R x y H2 → wpAny (model X.prog X.w) X.A (f v u) Q X.xe s2) :
    wpAny (model X.prog X.w) X.A (eval a X.env) (fun v s₁ => wpAny (model X.prog X.w) X.A (eval b X.env) (fun u s₂ => wpAny (model X.prog X.w) X.A (f v u) Q X.xe s₂) X.xe s₁) X.xe s := by
  refine thn (ha pins s σ H _ I h) fun v s1 ⟨x, H1, I1, r1, q1⟩ => ?_
  refine thn (hb pins s1 σ H1 _ I1 q1) fun u s2 ⟨y, H2, I2, r2, q2⟩ => ?_
  exact hf v u s2 x y H2 I2 r1 r2 q2
theorem pe_op {op : Operator} {r : R2} (ho : OpR X (binaryOp op) r) (ha : PE X a ta) (hb : PE X b tb) : PE X (.BinOp a op b pos) (tOp r ta tb) := by
  intro pins s σ H Q I h
  exact wpAny_BinOp (binT ha hb I h fun v u s2 x y H2 I2 rx ry q => ho pins s2 σ H2 x y v u Q I2 rx ry q)
theorem opI {f : Value → Value → Sem Value} {C : Int → Int → Prop} {g : Int → Int → Int}
    (rule : ∀ (i j : Int) (t u : Tok) (s : Shared) (Q : Value → Shared → Prop) (E : Value → Shared → Prop), C i j → Q (.int (g i j) s.toks) { s with toks := s.toks + 1 } → wpAny (model X.prog X.w) X.A (f (.int i t) (.int j u)) Q E s) :
    OpR X f (rI C fun i j => .int (g i j)) := by
  intro pins s σ H x y v u Q I rx ry h
  obtain ⟨i, j, rfl, rfl, hc, q⟩ := h
  obtain ⟨t, rfl⟩ := rx
  obtain ⟨t', rfl⟩ := ry
  exact rule i j t t' s _ _ hc ⟨.int (g i j), H, I.tok _, ⟨_, rfl⟩, q⟩
theorem opI0 {f : Value → Value → Sem Value} {g : Int → Int → Int}
    (rule : ∀ (i j : Int) (t u : Tok) (s : Shared) (Q : Value → Shared → Prop) (E : Value → Shared → Prop), Q (.int (g i j) s.toks) { s with toks := s.toks + 1 } → wpAny (model X.prog X.w) X.A (f (.int i t) (.int j u)) Q E s) :
    OpR X f (rI0 fun i j => .int (g i j)) := by
  intro pins s σ H x y v u Q I rx ry h
  obtain ⟨i, j, rfl, rfl, q⟩ := h
  obtain ⟨t, rfl⟩ := rx
  obtain ⟨t', rfl⟩ := ry
  exact rule i j t t' s _ _ ⟨.int (g i j), H, I.tok _, ⟨_, rfl⟩, q⟩
theorem opB0 {f : Value → Value → Sem Value} {g : Int → Int → Bool}
    (rule : ∀ (i j : Int) (t u : Tok) (s : Shared) (Q : Value → Shared → Prop) (E : Value → Shared → Prop), Q (.bool (g i j)) s → wpAny (model X.prog X.w) X.A (f (.int i t) (.int j u)) Q E s) :
    OpR X f (rI0 fun i j => .bl (g i j)) := by
  intro pins s σ H x y v u Q I rx ry h
  obtain ⟨i, j, rfl, rfl, q⟩ := h
  obtain ⟨t, rfl⟩ := rx
  obtain ⟨t', rfl⟩ := ry
  exact rule i j t t' s _ _ ⟨.bl (g i j), H, I, rfl, q⟩
noncomputable def CPow (i j : Int) : Prop := 0 ≤ j ∧ j ≤ 1000000 ∧ i.natAbs < 2 ^ 64
noncomputable def CMul (i j : Int) : Prop := (-(2 ^ 64) < i ∧ i < 2 ^ 64) ∨ (-(2 ^ 64) < j ∧ j < 2 ^ 64)
theorem CMul.ok {i j : Int} (h : CMul i j) : IntMulOk i j := by
  rcases h with ⟨h1, h2⟩ | ⟨h1, h2⟩
  · exact .of_left (intBits_le_64 h1 h2)
  · exact .of_right (intBits_le_64 h1 h2)
theorem op_add : OpR X (binaryOp .Add) (rI0 fun i j => .int (i + j)) := opI0 fun _ _ _ _ _ _ _ q => add_int q
theorem op_sub : OpR X (binaryOp .Sub) (rI0 fun i j => .int (i - j)) := opI0 fun _ _ _ _ _ _ _ q => sub_int q
theorem op_mul : OpR X (binaryOp .Mult) (rI CMul fun i j => .int (i * j)) := opI fun _ _ _ _ _ _ _ hc q => mul_int q hc.ok
theorem op_mod : OpR X (binaryOp .Mod) (rI (fun _ j => 0 < j) fun i j => .int (i % j)) := opI fun i j _ _ _ _ _ hc q => by
  have h1 : (0 : Int) < j := hc
  exact mod_int' (by omega) (by rw [Int.fmod_eq_emod_of_nonneg i (by omega)]; exact q)
theorem op_pow : OpR X (binaryOp .Pow) (rI CPow fun i j => .int (i ^ j.toNat)) := opI fun _ _ _ _ _ _ _ hc q => pow_int_small hc.1 hc.2.1 hc.2.2 q
end
section
variable {X : Cx} {a b c : Expr} {ta tb tc : TE} {pos : Pos}
theorem fin_bl {pins : List (Addr × Obj)} {σ : St} {H : Hp} {s : Shared} {Q : VK} {k k' : Bool} (I : Inv X pins σ H s) (q : Q (.bl k) H) (e : k = k') : EP X pins σ Q (.bool k') s := by
  subst e
  exact ⟨.bl k, H, I, rfl, q⟩
theorem op_lt : OpR X (compareOp .Lt) (rI0 fun i j => .bl (decide (i < j))) := opB0 fun _ _ _ _ _ _ _ q => lt_int q
theorem op_ge : OpR X (compareOp .GtE) (rI0 fun i j => .bl (decide (j ≤ i))) := opB0 fun _ _ _ _ _ _ _ q => ge_int q
theorem op_isN : OpR X (compareOp .Is) (fun x y H Q => y = .non ∧ Q (.bl (decide (x = .non))) H) := by
  intro pins s σ H x y v u Q I rx ry h
  obtain ⟨rfl, q⟩ := h
  cases ry
  refine is_none_gen (fin_bl I q ?_)
  cases x <;> first
    | (cases rx; rfl)
    | (obtain ⟨t, rfl⟩ := rx; rfl)
theorem nomark (b : Expr) {op : CmpOp} (h : op ≠ .In := by decide) (h2 : op ≠ .NotIn := by decide) : behindInMarks op b = false := by
  have e1 : (op == CmpOp.In) = false := by cases op <;> first | rfl | exact absurd rfl h
  have e2 : (op == CmpOp.NotIn) = false := by cases op <;> first | rfl | exact absurd rfl h2
  cases b <;> simp [behindInMarks, e1, e2]
theorem pe_cmpR {op : CmpOp} {r : R2} (ho : OpR X (compareOp op) r) (ha : PE X a ta) (hb : PE X b tb) (hm : behindInMarks op b = false) : PE X (.Compare a [op] [b] pos) (tOp r ta tb) := by
  intro pins s σ H Q I h
  exact wpAny_Compare1 (binT ha hb I h fun v u s2 x y H2 I2 rx ry q => ho pins s2 σ H2 x y v u Q I2 rx ry q) hm
noncomputable def tTest (t : TE) : TT := fun σ H Q => t σ H fun x H' => ∃ k, x = .bl k ∧ Q k H'
theorem pt_cmpR {op : CmpOp} {r : R2} (ho : OpR X (compareOp op) r) (ha : PE X a ta) (hb : PE X b tb) (hm : behindInMarks op b = false) : PT X (.Compare a [op] [b] pos) (tTest (tOp r ta tb)) := by
  intro pins s σ H Q I h
  refine wpAny_isTrue_Compare1 (thn (ha pins s σ H _ I h) fun v s1 ⟨x, H1, I1, r1, q1⟩ => thn (hb pins s1 σ H1 _ I1 q1) fun u s2 ⟨y, H2, I2, r2, q2⟩ =>
    thn (ho pins s2 σ H2 x y v u _ I2 r1 r2 q2) fun c s3 ⟨z, H3, I3, r3, k, e, q3⟩ => ?_) hm
  subst e
  cases r3
  exact wpAny_truthy_bool ⟨H3, I3, q3⟩
theorem line63 : (sizeLine : Nat) < 2 ^ 63 := by rw [sizeLine_eq]; decide
theorem op_add_str : OpR X (binaryOp .Add) (fun x y H Q => ∃ i j, x = .str i ∧ y = .str j ∧ i.length + j.length ≤ sizeLine ∧ Q (.str (i ++ j)) H) := by
  intro pins s σ H x y v u Q I rx ry h
  obtain ⟨i, j, rfl, rfl, hz, q⟩ := h
  obtain ⟨t, rfl⟩ := rx
  obtain ⟨t', rfl⟩ := ry
  exact add_str (fun t' tk => ⟨.str (i ++ j), H, I.tok _, ⟨_, rfl⟩, q⟩) hz
theorem vals1 {x : V} {us : List Value} (r : Vals [x] us) : ∃ u, us = [u] ∧ RelV x u := by
  cases r with
  | cons r1 r2 => cases r2; exact ⟨_, rfl, r1⟩
theorem vals2 {x y : V} {us : List Value} (r : Vals [x, y] us) : ∃ u w', us = [u, w'] ∧ RelV x u ∧ RelV y w' := by
  cases r with
  | cons r1 r2 =>
    cases r2 with
    | cons r3 r4 => cases r4; exact ⟨_, _, rfl, r1, r3⟩
theorem call_max2 (hc : X.calm = true) : CallR X (.builtin "max") (fun xs H Q => ∃ i j, xs = [.int i, .int j] ∧ Q (.int (if j > i then j else i)) H) := by
  intro pins s σ H xs us Q I r h
  obtain ⟨i, j, rfl, q⟩ := h
  obtain ⟨u, w', rfl, ⟨t, rfl⟩, ⟨t', rfl⟩⟩ := vals2 r
  refine max_two_ints (I.ok.hd hc) fun h' tk k => ⟨_, H, I.kept k, ?_, q⟩
  by_cases hj : j > i
  · rw [if_pos hj, if_pos hj]; exact ⟨_, rfl⟩
  · rw [if_neg hj, if_neg hj]; exact ⟨_, rfl⟩
noncomputable def LenV (K : PySem.W.Frag) (x : V) (H : Hp) (n : Nat) : Prop :=
  match x with
  | .str y => y.length ≤ sizeLine ∧ n = y.length
  | .byt y => y.size ≤ sizeLine ∧ n = y.size
  | .ref p => (∃ xs, SqL K H p xs ∧ n = xs.length) ∨ ∃ xs, SqT K H p xs ∧ n = xs.length
  | _ => False
theorem call_len : CallR X (.builtin "len") (fun xs H Q => ∃ x n, xs = [x] ∧ LenV X.K x H n ∧ Q (.int n) H) := by
  intro pins s σ H xs us Q I r h
  obtain ⟨x, n, rfl, e, q⟩ := h
  obtain ⟨u, rfl, rx⟩ := vals1 r
  have hl := line63
  have hs : sizeLine = 16777216 := sizeLine_eq
  cases x with
  | str y =>
    obtain ⟨t, rfl⟩ := rx
    obtain ⟨hy, e'⟩ : y.length ≤ sizeLine ∧ n = y.length := e
    subst e'
    exact len_str (by omega) ⟨.int _, H, I.tok _, ⟨_, rfl⟩, q⟩
  | byt y =>
    obtain ⟨t, rfl⟩ := rx
    obtain ⟨hy, e'⟩ : y.size ≤ sizeLine ∧ n = y.size := e
    subst e'
    exact PySem.W.len_bytes (by omega) ⟨.int _, H, I.tok _, ⟨_, rfl⟩, q⟩
  | ref p =>
    cases rx
    have e' : (∃ xs, SqL X.K H p xs ∧ n = xs.length) ∨ ∃ xs, SqT X.K H p xs ∧ n = xs.length := e
    rcases e' with ⟨xs, hx, e'⟩ | ⟨xs, hx, e'⟩
    · subst e'
      obtain ⟨its, r', pl, hz⟩ := I.list hx
      have hlen := r'.length
      exact Calls.call_len_list pl.isList (by simp only [List.size_toArray]; omega) ⟨.int xs.length, H, I.tok _, ⟨_, by simp only [List.size_toArray]; rw [hlen]⟩, q⟩
    · subst e'
      obtain ⟨its, r', pl, hz⟩ := I.tuple hx
      have hlen := r'.length
      exact len_tuple pl (by simp only [List.size_toArray]; omega) ⟨.int xs.length, H, I.tok _, ⟨_, by simp only [List.size_toArray]; rw [hlen]⟩, q⟩
  | _ => exact (show False from e).elim
end
end L2
namespace L2
open PySem PySem.Spec PyProof.Rows
structure ObjM (h : Heap) (x dx C : Addr) (mA : Str → Option Value) : Prop where
  obj : h.get? x = some (PySem.W.instObj C dx)
  ns : h.Ns1 dx mA
  ne : dx ≠ x
section
variable {prog : Program} {w : World} {A : Around} {E : Value → Shared → Prop} {s : Shared} {K : PySem.W.Frag} {x dx C f : Addr} {mA : Str → Option Value} {name : Str} {v : Value}
end
theorem RelO.some_of {v : V} {o : Option Value} (r : RelO (some v) o) : ∃ u, o = some u ∧ RelV v u := by
  cases o with
  | none => exact (show False from r).elim
  | some u => exact ⟨u, rfl, r⟩
section
variable {P : Program} {w : World} {H H' : Hp} {h h' : Heap} {a C dx : Addr} {fs fs' : List (Str × V)}
end
structure Cls (K : PySem.W.Frag) (C : Addr) : Prop where
  pg : PySem.W.plainGet K C Str.empty = true
  hd : PySem.W.hasDictIn K C = true
  po : PySem.W.plainOver K C = true
  sa : PySem.W.findIn K (.ref C) "__setattr__" = some (some (.builtin "object.__setattr__"))
noncomputable def NoAttr (K : PySem.W.Frag) (C : Addr) (f : Str) : Prop := PySem.W.findIn K (.ref C) f = some none
structure Con (K : PySem.W.Frag) (C : Addr) (f : Str) (v : V) (u : Value) : Prop where
  at_ : PySem.W.findIn K (.ref C) f = some (some u)
  rel : RelV v u
  get : PySem.W.specialIn K u "__get__" = some none
  cp : PySem.W.copiedNames.contains f = false
structure Meth (K : PySem.W.Frag) (C : Addr) (m : Str) (f : Addr) : Prop where
  at_ : PySem.W.findIn K (.ref C) m = some (some (.ref f))
  fn : PySem.W.isFn K (.ref f) = true
  kp : PySem.W.keepIn K (.ref f) = true
section
variable {X : Cx} {pins : List (Addr × Obj)} {σ : St} {H : Hp} {s : Shared} {a C dx : Addr} {fs : List (Str × V)} {f : Str} {v : V} {A : Around} {E : Value → Shared → Prop}
end
section
variable {X : Cx} {o e value : Expr} {f : Str} {pos pos' tpos : Pos} {ta tv : TE}
end
section
variable {X : Cx} {pins : List (Addr × Obj)} {σ : St} {H : Hp} {s : Shared} {A : Around} {E : Value → Shared → Prop} {Q : Value → Shared → Prop} {c : Value} {b : Bool}
inductive TyOf (K : PySem.W.Frag) (H : Hp) : V → Value → Prop where
  | non : TyOf K H .non (.type "NoneType")
  | bl (x : Bool) : TyOf K H (.bl x) (.type "bool")
  | int (i : Int) : TyOf K H (.int i) (.type "int")
  | str (x : Str) : TyOf K H (.str x) (.type "str")
  | flt (x : UInt64) : TyOf K H (.flt x) (.type "float")
  | lst {a : Addr} {xs : List V} (e : H a = some (.lst xs)) : TyOf K H (.ref a) (.type "list")
  | frz {a : Addr} {o : Obj} {xs : List V} (e : H a = some (.frz o (.lst xs))) : TyOf K H (.ref a) (.type "list")
  | tup {a : Addr} {xs : List V} (e : H a = some (.tup xs)) : TyOf K H (.ref a) (.type "tuple")
  | dK {a : Addr} {kvs : List (Key × V)} (e : H a = some (.dK kvs)) : TyOf K H (.ref a) (.type "dict")
  | dT {a : Addr} {kvs : List (List Key × V)} (e : H a = some (.dT kvs)) : TyOf K H (.ref a) (.type "dict")
  | ins {a C dx : Addr} {fs : List (Str × V)} (e : H a = some (.ins C dx fs)) (cl : Cls K C) (ha : PySem.W.findIn K (.ref C) "__class__" = some (some (.builtin "object.__class__")))
      (hn : PySem.W.specialIn K (.builtin "object.__class__") "__get__" = some (some (.builtin "getset_descriptor.__get__"))) (htk : PySem.W.takesIn K (.builtin "object.__class__") = some true)
      (hm : PySem.W.mroIn K C (.type "object") = some true) : TyOf K H (.ref a) (.ref C)
end
end L2
namespace L2
open PySem PySem.Spec PyProof.Rows
structure Room (k : Nat) (A : Around) : Prop where
  hd : A.handled = none
  dp : A.depth + 3 * k + 5 < recursionLimit
  un : A.units + 16 * k + 200 < cLine
theorem Room.mono {j k : Nat} {A : Around} (r : Room k A) (h : j ≤ k) : Room j A := ⟨r.hd, by have := r.dp; omega, by have := r.un; omega⟩
theorem Room.deeper {k : Nat} {A : Around} (r : Room (k + 1) A) (env : Env) : Room k (A.deeper env) :=
  ⟨r.hd, by have := r.dp; show A.depth + 1 + 3 * k + 5 < _; omega, by have := r.un; show A.units + 3 + 16 * k + 200 < _; omega⟩
theorem Room.depth {k : Nat} {A : Around} (r : Room k A) : A.depth < recursionLimit := by have := r.dp; omega
theorem Room.units {k : Nat} {A : Around} (r : Room k A) : A.units + 64 < cLine := by have := r.un; omega
noncomputable def tNil : TA := fun _ H Q => Q [] H
noncomputable def tCons (ta : TE) (tr : TA) : TA := fun σ H Q => ta σ H fun x H1 => tr σ H1 fun xs H2 => Q (x :: xs) H2
section
variable {X : Cx} {e : Expr} {es : List Expr} {te : TE} {t : TA} {pos : Pos}
theorem pa_nil : PA X [] tNil := fun _ _ _ _ H Q I h => Calls.spliced_nil ⟨[], H, I, .nil, h⟩
theorem pa_cons (ha : PE X e te) (hr : PA X es t) (hs : starEach (e :: es) X.env = (false, eval e X.env) :: starEach es X.env := by rfl) : PA X (e :: es) (tCons te t) := by
  intro pos pins s σ H Q I h
  rw [hs]
  show wpAny _ _ (spliced ((false, eval e X.env) :: backTo pos (starEach es X.env))) _ _ s
  refine Calls.spliced_cons (thn (ha pins s σ H _ I h) fun u s1 ⟨x, H1, I1, r1, q1⟩ => ?_)
  exact thn (hr pos pins s1 σ H1 _ I1 q1) fun us s2 ⟨xs, H2, I2, r2, q2⟩ => ⟨x :: xs, H2, I2, .cons r1 r2, q2⟩
noncomputable def tTup (t : TA) : TE := fun σ H Q => t σ H fun xs H1 => xs.length ≤ sizeLine ∧ ∀ p, H1 p = none → Q (.ref p) (upd H1 p (.tup xs))
noncomputable def tLst (t : TA) : TE := fun σ H Q => t σ H fun xs H1 => xs.length ≤ sizeLine ∧ ∀ p, H1 p = none → Q (.ref p) (upd H1 p (.lst xs))
theorem pe_tup {x1} (h : PA X es t) : PE X (.Tuple es x1 pos) (tTup t) := by
  intro pins s σ H Q I hq
  refine wpAny_Tuple_spliced (thn (h pos pins s σ H _ I hq) fun us s1 ⟨xs, H1, I1, r, z, q⟩ => ⟨by rw [← r.length]; exact z, ?_⟩)
  have hf : H1 s1.heap.objs.size = none := I1.hok.fresh (Nat.le_refl _)
  refine ⟨.ref s1.heap.objs.size, upd H1 s1.heap.objs.size (.tup xs), I1.laid (t' := s1.toks) (fun b u e => Heap.get?_push_of_some _ e) (Nat.le_refl _) ?_, rfl, q _ hf⟩
  exact ⟨z, us, r, ⟨_, Heap.get?_push_size _ rfl, ⟨rfl, _, rfl⟩, rfl⟩⟩
theorem pe_lst (h : PA X es t) : PE X (.List es pos) (tLst t) := by
  intro pins s σ H Q I hq
  refine wpAny_List_spliced (thn (h pos pins s σ H _ I hq) fun us s1 ⟨xs, H1, I1, r, z, q⟩ => ⟨by rw [← r.length]; exact z, ?_⟩)
  have hf : H1 s1.heap.objs.size = none := I1.hok.fresh (Nat.le_refl _)
  refine ⟨.ref s1.heap.objs.size, upd H1 s1.heap.objs.size (.lst xs), I1.laid (t' := s1.toks) (fun b u e => Heap.get?_push_of_some _ e) (Nat.le_refl _) ?_, rfl, q _ hf⟩
  exact ⟨z, us, 0, r, Heap.get?_push_size _ rfl⟩
end
noncomputable abbrev Sp := List V → Hp → VK → XK → Prop
noncomputable abbrev CXT := List Env → Hp → Shared → XK → Value → Shared → Prop
structure Env0 (P : Program) (w : World) (K : PySem.W.Frag) (mg : Str → Option Value) (base : Heap) (A : Around) (outer : List Env) (s : Shared) (H : Hp) : Prop where
  frames : A.frames = some outer
  mod : Mod K mg base
  bs : ∀ b o, base.get? b = some o → s.heap.get? b = some o ∧ H b = none
  bsz : base.objs.size ≤ s.heap.objs.size
  funs : s.heap.FunFrames base outer
  frf : ∀ b ∈ frs outer, H b = none
  hok : HOk P w H s.heap
  bare : AllBare s.gens
noncomputable def CE (outer : List Env) (P : Program) (w : World) (H : Hp) (s : Shared) (Q : VK) (u : Value) (s' : Shared) : Prop :=
  ∃ v H', s'.os = s.os ∧ AllBare s'.gens ∧ Un (frs outer) [] H H' s.heap s'.heap ∧ HOk P w H' s'.heap ∧ RelV v u ∧ Q v H'
noncomputable def CR (CX : CXT) (outer : List Env) (P : Program) (w : World) (H : Hp) (s : Shared) (Q : VK) (E : XK) (r : Result) (s' : Shared) : Prop :=
  match r with
  | .ok (.ret u) => CE outer P w H s Q u s'
  | .ok _ => False
  | .error e => CX outer H s E e s'
structure FnOk (P : Program) (w : World) (K : PySem.W.Frag) (mg : Str → Option Value) (base : Heap) (CX : CXT) (k : Nat) (f : Addr) (fd : FuncData) (ps : List Str) (sp : Sp) : Prop where
  len : ∀ vs H Q E, sp vs H Q E → vs.length = ps.length
  run : ∀ (A : Around) (outer : List Env) (s : Shared) (H : Hp) (args : Args) (us : List Value) (vs : List V) (Q : VK) (E : XK), Room k A → Env0 P w K mg base A outer s H → BindsTo s fd args (ps.zip us) → Vals vs us → sp vs H Q E →
    codeAny (model P w) A (.call (.ref f) args) (CR CX outer P w H s Q E) s
theorem FnOk.imp {P : Program} {w : World} {K : PySem.W.Frag} {mg : Str → Option Value} {base : Heap} {CX : CXT} {k : Nat} {f : Addr} {fd : FuncData} {ps : List Str} {sp sp' : Sp} (F : FnOk P w K mg base CX k f fd ps sp)
    (h : ∀ vs H Q E, sp' vs H Q E → sp vs H Q E) : FnOk P w K mg base CX k f fd ps sp' :=
  ⟨fun vs H Q E q => F.len vs H Q E (h _ _ _ _ q), fun A outer s H args us vs Q E hr he hb hv hs => F.run A outer s H args us vs Q E hr he hb hv (h _ _ _ _ hs)⟩
section
variable {X : Cx} {pins : List (Addr × Obj)} {σ : St} {H : Hp} {s s' : Shared}
theorem Inv.env0 (I : Inv X pins σ H s) : Env0 X.prog X.w X.K X.mg X.base X.A X.stack s H :=
  ⟨I.ok.frames, I.ok.mod, I.bs, Nat.le_trans I.ok.bsz I.sz, I.stack, I.stkFree, I.hok, I.bare⟩
theorem Inv.after {Q : VK} {u : Value} (I : Inv X pins σ H s) (h : CE X.stack X.prog X.w H s Q u s') : EP X pins σ Q u s' := by
  obtain ⟨v, H', os, bare, un, hok, r, q⟩ := h
  obtain ⟨hh, g, d, t, os'⟩ := s'
  obtain rfl : os' = s.os := os
  exact ⟨v, H', I.call (h' := hh) (g' := g) (d' := d) (t' := t) (ch := []) un hok bare (fun b z => absurd z (by simp)), r, q⟩
end
noncomputable def tCall (sp : Sp) (dvs : List V) (E : XK) (t : TA) : TE := fun σ H Q => t σ H fun vs H1 => sp (vs ++ dvs) H1 Q E
noncomputable def Binds (K : PySem.W.Frag) (fd : FuncData) (ps : List Str) (ds : List Value) : Prop :=
  ∀ (s : Shared) (us : List Value), K.In s.heap → (us ++ ds).length = ps.length → BindsTo s fd ⟨us, []⟩ (ps.zip (us ++ ds))
theorem Binds.all {K : PySem.W.Frag} {fd : FuncData} {ps : List Str} (h : ∀ us : List Value, us.length = ps.length → bindArgs fd ⟨us, []⟩ = pure (ps.zip us)) : Binds K fd ps [] := fun s us _ hl => by
  rw [List.append_nil] at hl ⊢
  exact .of_eq (h us hl)
noncomputable def Passes (CX : CXT) (X : Cx) (E : XK) : Prop := ∀ (pins : List (Addr × Obj)) (σ : St) (H : Hp) (s : Shared) (e : Value) (s' : Shared), Inv X pins σ H s → CX X.stack H s E e s' → X.xe e s'
section
variable {X : Cx} {CX : CXT} {k : Nat} {f C : Addr} {fd : FuncData} {ps : List Str} {sp : Sp} {dvs : List V} {ds : List Value} {E : XK} {x m : Str} {p pos apos : Pos} {e o : Expr} {es : List Expr} {ta : TE} {t : TA}
theorem run_fn {pins : List (Addr × Obj)} {σ : St} {H : Hp} {s : Shared} {Q : VK} {us : List Value} {vs : List V} (F : FnOk X.prog X.w X.K X.mg X.base CX k f fd ps sp) (hr : Room k X.A) (hb : Binds X.K fd ps ds) (hd : Vals dvs ds) (hx : Passes CX X E)
    (I : Inv X pins σ H s) (r : Vals vs us) (h : sp (vs ++ dvs) H Q E) : wpAny (model X.prog X.w) X.A (call (.ref f) us) (EP X pins σ Q) X.xe s := by
  have r2 : Vals (vs ++ dvs) (us ++ ds) := r.append hd
  have hl : (us ++ ds).length = ps.length := by rw [← r2.length]; exact F.len _ _ _ _ h
  refine wpAny_call (codeAny_mono (F.run X.A X.stack s H ⟨us, []⟩ (us ++ ds) (vs ++ dvs) Q E hr I.env0 (hb s us I.kIn hl) r2 h) fun r s' hq => ?_)
  cases r with
  | error e => exact hx pins σ H s e s' I hq
  | ok fl =>
    cases fl with
    | ret u => exact I.after hq
    | next => exact False.elim hq
    | brk => exact False.elim hq
    | cont => exact False.elim hq
theorem pe_call (F : FnOk X.prog X.w X.K X.mg X.base CX k f fd ps sp) (hr : Room k X.A) (hg : Gl X x) (hm : X.mg x = some (.ref f)) (hk : PySem.W.keepIn X.K (.ref f) = true) (hb : Binds X.K fd ps ds) (hd : Vals dvs ds) (hx : Passes CX X E)
    (ha : PA X (e :: es) t) (hdb : (x == ("__debug__" : Str)) = false := by decide) (he : starEach (e :: es) X.env = (false, eval e X.env) :: starEach es X.env := by rfl) (hpl : (backTo pos (starEach es X.env)).any (·.1) = false := by rfl) :
    PE X (.Call (.Name x p) (e :: es) [] pos) (tCall sp dvs E t) := by
  intro pins s σ H Q I h
  refine wpAny_Call_Name_kw (ld_glob I hg hm ?_ hdb)
  refine PySem.W.callWith_K (h₀ := X.base) I.ok.mod.kin hk (thn (ha pos pins s σ H _ I h) fun us s1 ⟨vs, H1, I1, r, q⟩ => ⟨I1.kIn, ?_⟩) he hpl
  exact run_fn F hr hb hd hx I1 r q
structure Mk (K : PySem.W.Frag) (C f : Addr) : Prop where
  makes : PySem.W.makesIn K C = true
  init : PySem.W.findIn K (.ref C) "__init__" = some (some (.ref f))
  fn : PySem.W.isFn K (.ref f) = true
  kp : PySem.W.keepIn K (.ref C) = true
end
section
variable {X : Cx} {CX : CXT} {k : Nat} {f C : Addr} {fd : FuncData} {ps ks : List Str} {sp : Sp} {E : XK} {x m : Str} {p pos apos kpos : Pos} {e o : Expr} {es : List Expr} {kws : List Keyword} {te ta : TE} {t tk : TA} {nm : Option Str}
structure KBinds (K : PySem.W.Frag) (fd : FuncData) (ps ks : List Str) (g : List Value → List Value → List Value) (gV : List V → List V → List V) : Prop where
  to : ∀ (s : Shared) (us ws : List Value), K.In s.heap → (g us ws).length = ps.length → BindsTo s fd ⟨us, ks.zip ws⟩ (ps.zip (g us ws))
  rel : ∀ {vs : List V} {us : List Value} {zs : List V} {ws : List Value}, Vals vs us → Vals zs ws → Vals (gV vs zs) (g us ws)
variable {g : List Value → List Value → List Value} {gV : List V → List V → List V}
end
structure FnScope (N P : List Str) (sc : Scope) : Prop where
  kind : sc.kind = .function
  co : sc.isCoroutine = false
  gen : sc.isGenerator = false
  nd : N.Nodup
  pre : N.take P.length = P
  par : ∀ x ∈ P, sc.names.lookup x = some .local ∨ sc.names.lookup x = some .cell
  nofree : ∀ y ∈ sc.names, y.2 ≠ .free
theorem bindL_out {kindOf : Str → Option NameKind} {x : Str} : ∀ {binds : List (Str × Value)} {m : Str → Option Value}, (∀ v, (x, v) ∉ binds) → bindL kindOf binds m x = m x
  | [], _, _ => rfl
  | (n, v) :: r, m, h => by
    unfold bindL
    rw [bindL_out fun w hw => h w (List.mem_cons_of_mem _ hw)]
    split
    · have : x ≠ n := by rintro rfl; exact h v List.mem_cons_self
      simp [this]
    · rfl
theorem bindC_out {kindOf : Str → Option NameKind} {x : Str} : ∀ {binds : List (Str × Value)} {m : Str → Option Value}, (∀ v, (x, v) ∉ binds) → bindC kindOf binds m x = m x
  | [], _, _ => rfl
  | (n, v) :: r, m, h => by
    unfold bindC
    rw [bindC_out fun w hw => h w (List.mem_cons_of_mem _ hw)]
    split
    · rfl
    · have : x ≠ n := by rintro rfl; exact h v List.mem_cons_self
      simp [this]
theorem bindL_get {kindOf : Str → Option NameKind} {x : Str} {v : Value} : ∀ {P : List Str} {vs : List Value} {i : Nat} {m : Str → Option Value}, P.Nodup → P[i]? = some x → vs[i]? = some v → kindOf x = some .local →
    bindL kindOf (P.zip vs) m x = some v
  | [], _, _, _, _, h, _, _ => by simp at h
  | _ :: _, [], _, _, _, _, h, _ => by simp at h
  | p :: P, w :: vs, 0, m, nd, h1, h2, hk => by
    simp at h1 h2; subst h1; subst h2
    show bindL kindOf ((p, w) :: P.zip vs) m p = _
    unfold bindL
    rw [bindL_out fun v hv => (List.nodup_cons.mp nd).1 (List.of_mem_zip hv).1, if_pos hk]
    simp
  | p :: P, w :: vs, i + 1, m, nd, h1, h2, hk => by
    show bindL kindOf ((p, w) :: P.zip vs) m x = _
    unfold bindL
    exact bindL_get (i := i) (List.nodup_cons.mp nd).2 (by simpa using h1) (by simpa using h2) hk
theorem bindC_get {kindOf : Str → Option NameKind} {x : Str} {v : Value} : ∀ {P : List Str} {vs : List Value} {i : Nat} {m : Str → Option Value}, P.Nodup → P[i]? = some x → vs[i]? = some v → kindOf x ≠ some .local →
    bindC kindOf (P.zip vs) m x = some v
  | [], _, _, _, _, h, _, _ => by simp at h
  | _ :: _, [], _, _, _, _, h, _ => by simp at h
  | p :: P, w :: vs, 0, m, nd, h1, h2, hk => by
    simp at h1 h2; subst h1; subst h2
    show bindC kindOf ((p, w) :: P.zip vs) m p = _
    unfold bindC
    rw [bindC_out fun v hv => (List.nodup_cons.mp nd).1 (List.of_mem_zip hv).1, if_neg hk]
    simp
  | p :: P, w :: vs, i + 1, m, nd, h1, h2, hk => by
    show bindC kindOf ((p, w) :: P.zip vs) m x = _
    unfold bindC
    exact bindC_get (i := i) (List.nodup_cons.mp nd).2 (by simpa using h1) (by simpa using h2) hk
noncomputable def start (N : List Str) (vs : List V) : St := vs.map some ++ List.replicate (N.length - vs.length) none
noncomputable def cxOf (CX : CXT) (P : Program) (w : World) (K : PySem.W.Frag) (mg : Str → Option Value) (base : Heap) (N : List Str) (qual : Str) (scope : Scope) (f : Addr) (cd : Value) (A : Around) (outer : List Env) (s : Shared) (H : Hp) (E : XK) : Cx where
  prog := P
  w := w
  K := K
  mg := mg
  base := base
  A := A.deeper (envOfC qual scope s.heap.objs.size f cd)
  N := N
  s₀ := s
  H₀ := H
  env := envOfC qual scope s.heap.objs.size f cd
  outer := outer
  stack := envOfC qual scope s.heap.objs.size f cd :: outer
  ex := []
  calm := true
  fn := fun _ => true
  pn := []
  xe := fun e s' => wpAny (model P w) (A.deeper (envOfC qual scope s.heap.objs.size f cd)) (leaving (envOfC qual scope s.heap.objs.size f cd) e) (fun _ s'' => CX outer H s E e s'') (fun e' s'' => CX outer H s E e' s'') s'
theorem cell_has {sc : Scope} {n : Nat} {x : Str} (h : sc.names.lookup x = some .cell) : ∃ c, (cellsFrom n sc.names []).lookup x = some c := by
  have q := PySem.W.cellsFrom_some sc.names n [] (.inl h)
  exact Option.isSome_iff_exists.mp q
theorem inv_start {CX : CXT} {P : Program} {w : World} {K : PySem.W.Frag} {mg : Str → Option Value} {base : Heap} {N ps : List Str} {qual : Str} {scope : Scope} {f : Addr} {cd : Value} {A : Around} {outer : List Env} {s s1 : Shared} {H : Hp} {E : XK} {us : List Value} {vs : List V}
    (S : FnScope N ps scope) (hd : A.handled = none) (e0 : Env0 P w K mg base A outer s H) (hl : vs.length = ps.length) (r : Vals vs us)
    (x : InCallC s s.heap.objs.size (bindL (envOfC qual scope s.heap.objs.size f cd).kindOf (ps.zip us) fun _ => none) (cellsFrom (s.heap.objs.size + 1) scope.names []) (bindC (envOfC qual scope s.heap.objs.size f cd).kindOf (ps.zip us) fun _ => none) s1) :
    Inv (cxOf CX P w K mg base N qual scope f cd A outer s H E) [] (start N vs) H s1 := by
  have hpl : ps.length ≤ N.length := by have := congrArg List.length S.pre; rw [List.length_take] at this; omega
  obtain ⟨h1, tk, rfl, hk⟩ := x.done
  have noA : ∀ b : Addr, b ∉ (cxOf CX P w K mg base N qual scope f cd A outer s H E).ex := fun b z => absurd (show b ∈ ([] : List Addr) from z) (by simp)
  refine ⟨⟨e0.mod, S.kind, rfl, rfl, Nat.le_refl _, fun y z c h1 h2 => ?_, fun y hy => ?_, fun y c _ h => ?_, fun _ => hd, Around.frames_deeper e0.frames, .inr ⟨rfl, rfl⟩, fun b z => absurd z (noA b), e0.bs, e0.bsz, fun b _ _ => noA b, fun b z => absurd z (noA b), e0.funs, e0.frf⟩,
    rfl, e0.bare, Un.kept hk, ⟨_, x.toInCall.ns, fun i y v h1 h2 h3 => ?_⟩, fun y c h => ⟨_, x.cell y c h⟩, e0.hok.fresh (Nat.le_refl _), fun y c h => ?_, fun p hp => absurd (show p ∈ ([] : List (Addr × Obj)) from hp) (by simp), e0.hok.kept hk, ?_⟩
  · exact name_of_addr x.apart (PySem.mem_of_lookup h1) (PySem.mem_of_lookup h2)
  · have hy : scope.names.lookup y = some .cell ∨ scope.names.lookup y = some .free := hy
    rcases hy with hy | hy
    · exact cell_has hy
    · exact absurd rfl (S.nofree _ (PySem.mem_of_lookup hy))
  · exact Nat.le_of_lt (x.above y c (PySem.mem_of_lookup h))
  · have hi : i < vs.length := by
      unfold start at h2
      by_cases hi : i < vs.length
      · exact hi
      · rw [List.getElem?_append_right (by simpa using hi)] at h2
        rw [List.getElem?_replicate] at h2
        split at h2 <;> cases h2
    have ha : vs[i]? = some v := by
      unfold start at h2
      rw [List.getElem?_append_left (by simpa using hi), List.getElem?_map] at h2
      cases e : vs[i]? with
      | none => rw [e] at h2; cases h2
      | some a => rw [e] at h2; cases h2; rfl
    obtain ⟨u, hu, rv⟩ := r.get ha
    have hp : ps[i]? = some y := by
      rw [← S.pre, List.getElem?_take_of_lt (by omega)]; exact h1
    have ndP : ps.Nodup := by rw [← S.pre]; exact S.nd.sublist (List.take_sublist _ _)
    refine ⟨u, rv, ?_⟩
    rcases S.par y (List.mem_of_getElem? hp) with k | k
    · exact .inl ⟨k, bindL_get ndP hp hu k⟩
    · obtain ⟨c, e⟩ := cell_has (n := s.heap.objs.size + 1) k
      refine .inr ⟨.inl k, c, e, ?_⟩
      have q := x.cell y c e
      rw [bindC_get ndP hp hu (by show scope.names.lookup y ≠ _; rw [k]; decide)] at q
      exact q
  · exact e0.hok.fresh (Nat.le_of_lt (x.above y c (PySem.mem_of_lookup h)))
  · unfold start
    show _ = N.length
    rw [List.length_append, List.length_map, List.length_replicate]
    omega
theorem fn_of {CX : CXT} {P : Program} {w : World} {K : PySem.W.Frag} {mg : Str → Option Value} {base : Heap} {k : Nat} {f : Addr} {name qual : Str} {params : Arguments} {body : List Stmt} {scope : Scope} {dV kV doc pm cdv ct oc : Value} {an od : Option Addr}
    {osl : Array (Option Value)} {N ps : List Str} {sp : Sp} (lk : K.lookup f = some ⟨oc, od, .func (PySem.W.fnOf name qual params body scope dV kV doc pm an cdv ct), osl⟩) (hcd : PySem.W.codeIn K cdv qual = true) (S : FnScope N ps scope)
    (len : ∀ vs H Q E, sp vs H Q E → vs.length = ps.length)
    (hbody : ∀ (A : Around) (outer : List Env) (s : Shared) (H : Hp) (vs : List V) (Q : VK) (E : XK), Room k (A.deeper (envOfC qual scope s.heap.objs.size f cdv)) → sp vs H Q E →
      ∃ t, PSs (cxOf CX P w K mg base N qual scope f cdv A outer s H E) body t ∧ t { nx := fun _ H' => Q .non H', rt := Q } (start N vs) H) :
    FnOk P w K mg base CX (k + 1) f (PySem.W.fnOf name qual params body scope dV kV doc pm an cdv ct) ps sp := by
  refine ⟨len, fun A outer s H args us vs Q E hr e0 hb r hsp => ?_⟩
  have hl := len _ _ _ _ hsp
  have KX : K.In s.heap := e0.mod.kin.keeps fun b o e => (e0.bs b o e).1
  have lim : s.heap.NoLimit := e0.mod.nolimit.keeps fun b o e => (e0.bs b o e).1
  have hkind : ∀ y ∈ ps.zip us, scope.names.lookup y.1 = some .local ∨ (scope.names.lookup y.1 = some .cell ∧ ((cellsFrom (s.heap.objs.size + 1) scope.names []).lookup y.1).isSome = true) := fun ⟨n, v⟩ hy => by
    rcases S.par n (List.of_mem_zip hy).1 with q | q
    · exact .inl q
    · exact .inr ⟨q, PySem.W.cellsFrom_some _ _ _ (.inl q)⟩
  refine codeAny_call_function hr.depth (KX _ _ lk) rfl S.co S.gen rfl (PySem.W.codeRec_of KX hcd) (hb _ _ _ _ ?_)
  refine wpAny_newFunctionEnv_cells S.kind hkind fun env he s1 x => ?_
  subst he
  refine ⟨lim.keeps x.toInCall.keep, codeAny_func ?_⟩
  obtain ⟨t, ht, hq⟩ := hbody A outer s H vs Q E (hr.deeper _) hsp
  have I : Inv (cxOf CX P w K mg base N qual scope f cdv A outer s H E) [] (start N vs) H s1 := inv_start S hr.hd e0 hl r x
  refine wpAny_mono (ht [] s1 (start N vs) H _ I hq) (fun fl s' hs => ?_) fun e s' hs => hs
  have fin : ∀ {σ' : St} {H' : Hp} {v : V} {u : Value}, Inv (cxOf CX P w K mg base N qual scope f cdv A outer s H E) [] σ' H' s' → RelV v u → Q v H' → CE outer P w H s Q u s' :=
    fun {σ' H' v u} J rv q => ⟨v, H', J.os, J.bare, J.base, J.hok, rv, q⟩
  cases fl with
  | ret u =>
    obtain ⟨v, σ', H', J, rv, q⟩ := hs
    exact fin J rv q
  | next =>
    obtain ⟨σ', H', J, q⟩ := hs
    exact fin (v := V.non) (u := Value.none) J rfl q
  | brk =>
    obtain ⟨_, _, _, q⟩ := hs
    exact False.elim q
  | cont =>
    obtain ⟨_, _, _, q⟩ := hs
    exact False.elim q
end L2
namespace L2
open PySem PySem.Spec PyProof.Rows
section
variable {X : Cx} {x : Str} {p pos : Pos} {e : Expr} {es : List Expr} {t : TA} {id T : String} {r : List V → Hp → VK → Prop}
noncomputable def tCB (r : List V → Hp → VK → Prop) (t : TA) : TE := fun σ H Q => t σ H fun vs H1 => r vs H1 Q
theorem pe_callB (hc : CallR X (.builtin id) r) (hg : Gl X x) (hm : X.mg x = none) (hv : bootBuiltins x = some (.builtin id)) (ha : PA X (e :: es) t) (hn : x ≠ "__name__" := by decide) (hdb : (x == ("__debug__" : Str)) = false := by decide)
    (he : starEach (e :: es) X.env = (false, eval e X.env) :: starEach es X.env := by rfl) (hpl : (backTo pos (starEach es X.env)).any (·.1) = false := by rfl) : PE X (.Call (.Name x p) (e :: es) [] pos) (tCB r t) := by
  intro pins s σ H Q I h
  refine wpAny_Call_Name_kw (ld_blt I hg hm hv ?_ hn hdb)
  exact PyProof.Rows.callWith_builtin1 (thn (ha pos pins s σ H _ I h) fun us s1 ⟨vs, H1, I1, r1, q1⟩ => hc pins s1 σ H1 vs us Q I1 r1 q1) he hpl
theorem pe_callTy (hc : CallR X (.type T) r) (hg : Gl X x) (hm : X.mg x = none) (hv : bootBuiltins x = some (.type T)) (ha : PA X (e :: es) t) (hn : x ≠ "__name__" := by decide) (hdb : (x == ("__debug__" : Str)) = false := by decide)
    (he : starEach (e :: es) X.env = (false, eval e X.env) :: starEach es X.env := by rfl) (hpl : (backTo pos (starEach es X.env)).any (·.1) = false := by rfl) : PE X (.Call (.Name x p) (e :: es) [] pos) (tCB r t) := by
  intro pins s σ H Q I h
  refine wpAny_Call_Name_kw (ld_blt I hg hm hv ?_ hn hdb)
  exact PyProof.Rows.callWith_type1 (thn (ha pos pins s σ H _ I h) fun us s1 ⟨vs, H1, I1, r1, q1⟩ => hc pins s1 σ H1 vs us Q I1 r1 q1) he hpl
end
end L2
namespace HT
open PySem PyProof.Rows
section
open PySem.SeqAt
open PySem.AutoSeq1 (wpAny_loadPart')
open PySem.MeetsSeq PySem.MeetsSeq2 PySem.MeetsSeq3
end
section
variable {prog : Program} {w : World} {A : Around} {E : Value → Shared → Prop} {s : Shared}
theorem cat_tup {t b : Addr} {vs ws : List Value} {Q : Value → Shared → Prop} (ht : IsTup s.heap t vs.toArray) (hb : IsTup s.heap b ws.toArray) (hv : vs ≠ [])
    (h1 : ws = [] → Q (.ref t) s) (h2 : ws ≠ [] → Q (.ref s.heap.objs.size) { s with heap := s.heap.push { cls := .type "tuple", data := .seq (vs ++ ws).toArray } })
    (hsz : vs.length + ws.length ≤ sizeLine) : wpAny (model prog w) A (binaryOp .Add (.ref t) (.ref b)) Q E s := by
  obtain ⟨⟨cls, dd, data, sl⟩, ho, hc, n, hd⟩ := id ht
  obtain ⟨⟨cls2, dd2, data2, sl2⟩, ho2, hc2, n2, hd2⟩ := id hb
  simp only at hc hd hc2 hd2
  subst hc hd hc2 hd2
  have e : vs.toArray ++ ws.toArray = (vs ++ ws).toArray := by simp
  by_cases hw : ws = []
  · exact concat_meets ⟨_, ho, rfl⟩ ⟨_, ho2, rfl⟩ noFill_tuple_add seq_tuple_add PySem.F.slot_tuple_add PySem.F.entry_tuple_add (PySem.F.args_tuple_add_2 _ _)
      (tuple_addW1 t b vs.toArray ws.toArray n n2 dd dd2 sl sl2 (by simpa using hv) (by simp [hw])) ⟨ho, ho2, h1 hw⟩
  · refine concat_meets ⟨_, ho, rfl⟩ ⟨_, ho2, rfl⟩ noFill_tuple_add seq_tuple_add PySem.F.slot_tuple_add PySem.F.entry_tuple_add (PySem.F.args_tuple_add_2 _ _)
      (tuple_addW2 t b vs.toArray ws.toArray n n2 dd dd2 sl sl2 (by simpa using hv) (by simpa using hw) (by rw [List.size_toArray, List.size_toArray]; exact hsz)) ⟨ho, ho2, ?_⟩
    rw [e]
    exact h2 hw
noncomputable def sIx (n d : Nat) : Option Int → Nat
  | none => d
  | some v => if v < 0 then (v + (n : Int)).toNat else min v.toNat n
theorem sIx_none (n d : Nat) : sIx n d none = d := rfl
theorem sIx_nat (n d k : Nat) : sIx n d (some (k : Int)) = min k n := by
  show (if (k : Int) < 0 then ((k : Int) + (n : Int)).toNat else min (k : Int).toNat n) = min k n
  rw [if_neg (by omega), Int.toNat_natCast]
theorem sIx_le (n d : Nat) (hd : d ≤ n) (o : Option Int) : sIx n d o ≤ n := by
  cases o with
  | none => exact hd
  | some v =>
    show (if v < 0 then (v + (n : Int)).toNat else min v.toNat n) ≤ n
    by_cases hv : v < 0
    · rw [if_pos hv]; omega
    · rw [if_neg hv]; exact Nat.min_le_right _ _
theorem clip_eq (v : Int) (n d : Nat) : (if v < 0 then max (v + (n : Int)) 0 else min v (n : Int)) = ((sIx n d (some v) : Nat) : Int) := by
  show (if v < 0 then max (v + (n : Int)) 0 else min v (n : Int)) = (((if v < 0 then (v + (n : Int)).toNat else min v.toNat n) : Nat) : Int)
  by_cases hv : v < 0
  · simp only [if_pos hv]; omega
  · simp only [if_neg hv]; omega
theorem adjust_gen (lo hi : Option Int) (n : Nat) : Builtin.Slice.sliceAdjust lo hi 1 (n : Int) = (((sIx n 0 lo : Nat) : Int), ((sIx n n hi : Nat) : Int)) := by
  have h1 : ¬ ((1 : Int) < 0) := by omega
  unfold Builtin.Slice.sliceAdjust
  simp only [h1, if_false]
  refine Prod.ext ?_ ?_
  · cases lo with
    | none => rfl
    | some v => exact clip_eq v n 0
  · cases hi with
    | none => rfl
    | some v => exact clip_eq v n n
theorem places_gen (i j : Nat) : Builtin.Slice.slicePlaces (i : Int) (j : Int) 1 = j - i := by
  unfold Builtin.Slice.slicePlaces
  have h1 : (1 : Int) > 0 := by omega
  simp only [h1, if_true, Int.ediv_one]
  split <;> omega
theorem slicePart_ {v : Value} {o : Option Int} {Q : Option Int → Shared → Prop} (p : IsPart v o) (h : Q o s) : wpAny (model prog w) A (Builtin.Slice.slicePartIndex v) Q E s := by
  cases p with
  | none => exact slicePart_none h
  | int i t => exact slicePart_int h
theorem sliceApplied_gen {sl : Addr} {vl vu : Value} {lo hi : Option Int} {n : Nat} {Q : Int × Int × Nat → Shared → Prop} (hs : s.heap.IsSliceOf sl vl vu .none) (pl : IsPart vl lo) (pu : IsPart vu hi)
    (h : Q (((sIx n 0 lo : Nat) : Int), 1, sIx n n hi - sIx n 0 lo) s) : wpAny (model prog w) A (Builtin.Slice.sliceApplied (.ref sl) (pure (n : Int))) Q E s := by
  obtain ⟨os, hos, hcs, hds⟩ := id hs
  unfold Builtin.Slice.sliceApplied Builtin.Slice.sliceFields
  refine wpAny_bind (wpAny_bind (wpAny_field hos hds (x := vl) rfl (wpAny_bind (wpAny_field hos hds (x := vu) rfl (wpAny_bind (wpAny_field hos hds (x := .none) rfl (wpAny_pure ?_)))))))
  refine wpAny_bind (slicePart_none ?_)
  show wpAny _ _ (if ((1 : Int) == 0) = true then _ else _) _ _ s
  rw [if_neg (by decide)]
  refine wpAny_bind (slicePart_ pl (wpAny_bind (slicePart_ pu (wpAny_bind (wpAny_pure ?_)))))
  show wpAny _ _ (match Builtin.Slice.sliceAdjust lo hi 1 (n : Int) with | (lo, hi) => pure (lo, (1 : Int), Builtin.Slice.slicePlaces lo hi 1)) _ _ s
  rw [adjust_gen lo hi n]
  show wpAny _ _ (pure (((sIx n 0 lo : Nat) : Int), (1 : Int), Builtin.Slice.slicePlaces ((sIx n 0 lo : Nat) : Int) ((sIx n n hi : Nat) : Int) 1)) _ _ s
  rw [places_gen]
  exact wpAny_pure h
theorem pick_gen (xs : Array Value) (i k : Nat) : ((List.range k).filterMap fun (m : Nat) => xs[((i : Int) + (m : Int) * 1).toNat]?).toArray = ((xs.toList.drop i).take k).toArray := by
  have e : (fun (m : Nat) => xs[((i : Int) + (m : Int) * 1).toNat]?) = fun m => xs[i + m]? := by
    funext m
    have : ((i : Int) + (m : Int) * 1).toNat = i + m := by omega
    rw [this]
  rw [e]
  have := pick_run xs i k
  rw [List.filterMap_map] at this
  have e2 : ((fun x => xs[x]?) ∘ fun x => i + x) = fun m => xs[i + m]? := rfl
  rw [e2] at this
  rw [this]
theorem getItem_tuple_cut {t sl : Addr} {items : Array Value} {vl vu : Value} {lo hi : Option Int} {Q : Value → Shared → Prop} (ht : IsTup s.heap t items) (hs : s.heap.IsSliceOf sl vl vu .none) (pl : IsPart vl lo) (pu : IsPart vu hi)
    (hw : ¬ (sIx items.size 0 lo = 0 ∧ sIx items.size items.size hi = items.size))
    (h : Q (.ref s.heap.objs.size) { s with heap := s.heap.push { cls := .type "tuple", data := .seq ((items.toList.drop (sIx items.size 0 lo)).take (sIx items.size items.size hi - sIx items.size 0 lo)).toArray } })
    (hsz : items.size ≤ sizeLine) : wpAny (model prog w) A (getItem (.ref t) (.ref sl)) Q E s := by
  have htake : sizeOk (.seq ((items.toList.drop (sIx items.size 0 lo)).take (sIx items.size items.size hi - sIx items.size 0 lo)).toArray) := by
    show ((items.toList.drop (sIx items.size 0 lo)).take (sIx items.size items.size hi - sIx items.size 0 lo)).toArray.size ≤ sizeLine
    rw [List.size_toArray, List.length_take, List.length_drop, Array.length_toList]
    omega
  have hj : sIx items.size items.size hi ≤ items.size := sIx_le _ _ (Nat.le_refl _) hi
  obtain ⟨os, hos, hcs, hds⟩ := id hs
  have hTs : s.TypeIs (.ref sl) "slice" := ⟨os, hos, hcs⟩
  unfold getItem
  try with_reducible refine wpAny_holding ?_
  first | refine wpAny_bind (wpAny_pure ?_) | skip
  refine wpAny_bind (wpAny_sequenceKey ht.typeIs (by decide) ?_)
  refine wpAny_bind (wpAny_callSpecial?_slot (name := Str.ofString "__getitem__") ht.typeIs PyProof.Rows.slot_tuple_getitem
    (wpAny_call_entry PyProof.Rows.slot_tuple_getitem ht.typeIs entry_tuple_getitem ?_ (args_tuple_getitem _ _)))
  show wpAny _ _ (Builtin.Tuple.tupleItemsOf (.ref t) >>= _) _ _ s
  refine wpAny_bind (tupleItemsOf_ ht ?_)
  refine wpAny_bind (wpAny_typeOf hTs ?_)
  rw [if_pos (by decide)]
  refine wpAny_bind (sliceApplied_gen hs pl pu ?_)
  have hno : ¬ ((((sIx items.size 0 lo : Nat) : Int) == 0 && (1 : Int) == 1 && (sIx items.size items.size hi - sIx items.size 0 lo) == items.size) = true) := by
    intro q
    rw [Bool.and_eq_true, Bool.and_eq_true] at q
    have q1 : ((sIx items.size 0 lo : Nat) : Int) = 0 := eq_of_beq q.1.1
    have q2 : sIx items.size items.size hi - sIx items.size 0 lo = items.size := eq_of_beq q.2
    exact hw ⟨by omega, by omega⟩
  show wpAny _ _ (if (((sIx items.size 0 lo : Nat) : Int) == 0 && (1 : Int) == 1 && (sIx items.size items.size hi - sIx items.size 0 lo) == items.size) = true then _ else _) _ _ s
  rw [if_neg hno, pick_gen]
  first
    | exact wpAny_bind (m := Builtin.Tuple.tupleExact _) (wpAny_newObj_type (wpAny_pure ⟨_, rfl, wpAny_pure h⟩) htake)
    | exact wpAny_bind (m := Builtin.Tuple.tupleExact _) (wpAny_newObj_type (wpAny_bind (wpAny_pure (wpAny_pure ⟨_, rfl, wpAny_pure h⟩))) htake)
    | exact wpAny_bind (wpAny_bind (m := Builtin.Tuple.tupleExact _) (wpAny_newObj_type (wpAny_pure (wpAny_pure ⟨_, rfl, wpAny_pure h⟩)) htake))
    | exact wpAny_bind (wpAny_bind (m := Builtin.Tuple.tupleExact _) (wpAny_newObj_type (wpAny_pure ⟨_, rfl, wpAny_pure h⟩) htake))
end
end HT
namespace L2
open PySem PySem.Spec PyProof.Rows
noncomputable abbrev TO := St → Hp → (Option Int → Hp → Prop) → Prop
noncomputable def PO (X : Cx) (e : Option Expr) (t : TO) : Prop :=
  ∀ (pins : List (Addr × Obj)) (s : Shared) (σ : St) (H : Hp) (Q : Option Int → Hp → Prop), Inv X pins σ H s → t σ H Q →
    wpAny (model X.prog X.w) X.A (evalPart e X.env) (fun u s' => ∃ o H', Inv X pins σ H' s' ∧ IsPart u o ∧ Q o H') X.xe s
noncomputable def tNoPart : TO := fun _ H Q => Q none H
noncomputable def tPart (t : TE) : TO := fun σ H Q => t σ H fun x H1 => ∃ i, x = .int i ∧ Q (some i) H1
theorem intsAre_of {ns : List Int} : ∀ {us : List Value}, Vals (ns.map V.int) us → IntsAre us ns := by
  induction ns with
  | nil => intro us r; rw [List.map_nil] at r; cases r; exact .nil
  | cons n ns ih =>
    intro us r
    rw [List.map_cons] at r
    cases r with
    | cons r1 r2 =>
      obtain ⟨t, e⟩ := r1
      subst e
      exact .cons n t (ih r2)
section
variable {X : Cx} {e : Expr} {te : TE} {lo hi : Option Expr} {tl th : TO} {pos p2 : Pos}
theorem po_none : PO X none tNoPart := by
  intro pins s σ H Q I h
  rw [evalPart_none]
  exact wpAny_pure ⟨none, H, I, .none, h⟩
theorem po_some (h : PE X e te) : PO X (some e) (tPart te) := by
  intro pins s σ H Q I hw
  rw [evalPart_some]
  refine thn (h pins s σ H _ I hw) fun u s1 ⟨x, H1, I1, r1, q1⟩ => ?_
  obtain ⟨i, rfl, q⟩ := q1
  obtain ⟨t, rfl⟩ := r1
  exact ⟨some i, H1, I1, .int i t, q⟩
noncomputable def SlR (X : Cx) (r : V → Option Int → Option Int → Hp → VK → Prop) : Prop :=
  ∀ (pins : List (Addr × Obj)) (s : Shared) (σ : St) (H : Hp) (x : V) (v vl vu : Value) (lo hi : Option Int) (sl : Addr) (Q : VK), Inv X pins σ H s → RelV x v → s.heap.IsSliceOf sl vl vu .none → IsPart vl lo → IsPart vu hi → r x lo hi H Q →
    ∃ T id, typeLookup (.type T) "__getitem__" = pure (some (.builtin id)) ∧ s.TypeIs v T ∧ wpAny (model X.prog X.w) X.A (getItem v (.ref sl)) (EP X pins σ Q) X.xe s
noncomputable def tSl (r : V → Option Int → Option Int → Hp → VK → Prop) (te : TE) (tl th : TO) : TE := fun σ H Q => te σ H fun x H1 => tl σ H1 fun l H2 => th σ H2 fun u H3 => r x l u H3 Q
theorem pe_slice {r : V → Option Int → Option Int → Hp → VK → Prop} (hr : SlR X r) (he : PE X e te) (hl : PO X lo tl) (hu : PO X hi th) : PE X (.Subscript e (.Slice lo hi none p2) pos) (tSl r te tl th) := by
  intro pins s σ H Q I h
  refine Subscript_ (thn (he pins s σ H _ I h) fun v s1 ⟨x, H1, I1, r1, q1⟩ => ?_)
  refine wpAny_Slice (thn (hl pins s1 σ H1 _ I1 q1) fun vl s2 ⟨l, H2, I2, pl, q2⟩ => thn (hu pins s2 σ H2 _ I2 q2) fun vu s3 ⟨u, H3, I3, pu, q3⟩ => ?_)
  rw [evalPart_none]
  refine wpAny_pure ?_
  have I4 : Inv X pins σ H3 { s3 with heap := s3.heap.push { cls := .type "slice", data := .fields #[vl, vu, .none] } } := I3.kept (t' := s3.toks) fun b ob q => Heap.get?_push_of_some _ q
  obtain ⟨T, id, hT, ht, hg⟩ := hr pins { s3 with heap := s3.heap.push { cls := .type "slice", data := .fields #[vl, vu, .none] } } σ H3 x v vl vu l u s3.heap.objs.size Q I4 r1 (Heap.IsSliceOf.new ..) pl pu q3
  show wpAny (model X.prog X.w) X.A (subscriptTail e (.Slice lo hi none p2) v (.ref s3.heap.objs.size)) (EP X pins σ Q) X.xe { s3 with heap := s3.heap.push { cls := .type "slice", data := .fields #[vl, vu, .none] } }
  exact tail_any (ops := [.ref s3.heap.objs.size, v]) ht hT hg (by with_unfolding_all rfl)
noncomputable def cutV (xs : List V) (lo hi : Option Int) : List V := (xs.drop (HT.sIx xs.length 0 lo)).take (HT.sIx xs.length xs.length hi - HT.sIx xs.length 0 lo)
theorem cutV_length (xs : List V) (lo hi : Option Int) : (cutV xs lo hi).length ≤ xs.length := by
  unfold cutV
  rw [List.length_take, List.length_drop]
  omega
noncomputable def rSlT (K : PySem.W.Frag) : V → Option Int → Option Int → Hp → VK → Prop := fun x lo hi H Q => ∃ a xs, x = .ref a ∧ SqT K H a xs ∧
  ¬ (HT.sIx xs.length 0 lo = 0 ∧ HT.sIx xs.length xs.length hi = xs.length) ∧ ∀ p, H p = none → Q (.ref p) (upd H p (.tup (cutV xs lo hi)))
theorem sl_tup : SlR X (rSlT X.K) := by
  intro pins s σ H x v vl vu lo hi sl Q I rx hs pl pu h
  obtain ⟨a, xs, rfl, hx, hw, q⟩ := h
  cases rx
  obtain ⟨its, r, ht, hz⟩ := I.tuple hx
  have hlen : its.toArray.size = xs.length := by rw [List.size_toArray]; exact r.length.symm
  refine ⟨"tuple", _, PyProof.Rows.slot_tuple_getitem.lookup, ht.typeIs, ?_⟩
  refine HT.getItem_tuple_cut ht hs pl pu (by rw [hlen]; exact hw) ?_ (by rw [hlen]; exact hz)
  rw [hlen]
  refine ⟨.ref s.heap.objs.size, _, I.laid (t' := s.toks) (o := .tup (cutV xs lo hi)) (fun b ob q => Heap.get?_push_of_some _ q) (Nat.le_refl _) ?_, rfl, q _ (I.hok.fresh (Nat.le_refl _))⟩
  exact ⟨Nat.le_trans (cutV_length xs lo hi) hz, _, (r.drop (HT.sIx xs.length 0 lo)).take (HT.sIx xs.length xs.length hi - HT.sIx xs.length 0 lo), TupX.new _ _⟩
noncomputable def rCatT (K : PySem.W.Frag) : R2 := fun x y H Q => ∃ a b xs ys, x = .ref a ∧ y = .ref b ∧ SqT K H a xs ∧ SqT K H b ys ∧ xs ≠ [] ∧ xs.length + ys.length ≤ sizeLine ∧
  (ys = [] → Q (.ref a) H) ∧ (ys ≠ [] → ∀ p, H p = none → Q (.ref p) (upd H p (.tup (xs ++ ys))))
theorem Vals.nil_iff {xs : List V} {us : List Value} (r : Vals xs us) : us = [] ↔ xs = [] := by
  cases r with
  | nil => simp
  | cons _ _ => simp
theorem op_catT : OpR X (binaryOp .Add) (rCatT X.K) := by
  intro pins s σ H x y v u Q I rx ry h
  obtain ⟨a, b, xs, ys, rfl, rfl, ha, hb, hx, hz, q1, q2⟩ := h
  cases rx
  cases ry
  obtain ⟨its, r1, p1, _⟩ := I.tuple ha
  obtain ⟨its2, r2, p2, _⟩ := I.tuple hb
  refine HT.cat_tup p1 p2 (fun z => hx (r1.nil_iff.mp z)) (fun z => ⟨.ref a, H, I, rfl, q1 (r2.nil_iff.mp z)⟩) (fun z => ?_) (by rw [← r1.length, ← r2.length]; exact hz)
  refine ⟨.ref s.heap.objs.size, _, I.laid (t' := s.toks) (o := .tup (xs ++ ys)) (fun b ob q => Heap.get?_push_of_some _ q) (Nat.le_refl _) ?_, rfl, q2 (fun w => z (r2.nil_iff.mpr w)) _ (I.hok.fresh (Nat.le_refl _))⟩
  exact ⟨by rw [List.length_append]; exact hz, _, r1.append r2, TupX.new _ _⟩
end
end L2
namespace L2
open PySem PySem.Spec PyProof.Rows
noncomputable def ixN (n : Nat) (i : Int) : Option Nat := if 0 ≤ i then (if i < n then some i.toNat else none) else if -(n : Int) ≤ i then some (i + n).toNat else none
noncomputable def atI {α : Type} (xs : List α) (i : Int) : Option α := (ixN xs.length i).bind fun j => xs[j]?
theorem ixN_seq {n : Nat} {i : Int} {j : Nat} (h : ixN n i = some j) : seqIndex? i n = some j ∧ j < n ∧ -(n : Int) ≤ i ∧ i < n := by
  unfold ixN at h
  by_cases h0 : 0 ≤ i
  · rw [if_pos h0] at h
    by_cases h1 : i < n
    · rw [if_pos h1] at h
      have e : i.toNat = j := Option.some.inj h
      exact ⟨by rw [seqIndex_of h0 h1, e], by omega, by omega, h1⟩
    · rw [if_neg h1] at h; cases h
  · rw [if_neg h0] at h
    by_cases h1 : -(n : Int) ≤ i
    · rw [if_pos h1] at h
      have e : (i + n).toNat = j := Option.some.inj h
      exact ⟨by rw [seqIndex_neg (by omega) h1, e], by omega, h1, by omega⟩
    · rw [if_neg h1] at h; cases h
theorem atI_get {α : Type} {xs : List α} {i : Int} {v : α} (h : atI xs i = some v) : ∃ j, seqIndex? i xs.length = some j ∧ xs[j]? = some v ∧ j < xs.length ∧ -(xs.length : Int) ≤ i ∧ i < xs.length := by
  unfold atI at h
  cases e : ixN xs.length i with
  | none => rw [e] at h; cases h
  | some j =>
    rw [e] at h
    obtain ⟨h1, h2, h3, h4⟩ := ixN_seq e
    exact ⟨j, h1, h, h2, h3, h4⟩
theorem atI_nat {α : Type} {xs : List α} {j : Nat} {v : α} (h : xs[j]? = some v) : atI xs (j : Int) = some v := by
  have hj : j < xs.length := (List.getElem?_eq_some_iff.mp h).1
  have e : ixN xs.length (j : Int) = some j := by
    unfold ixN
    rw [if_pos (by omega), if_pos (by omega)]; simp
  unfold atI; rw [e]; exact h
noncomputable def PlainIx (b : Expr) : Prop := ∀ o i, subscripted b false o i = operate [o, i] (getItem o i)
noncomputable def IxR (X : Cx) (r : R2) : Prop :=
  ∀ (value slice : Expr) (pins : List (Addr × Obj)) (s : Shared) (σ : St) (H : Hp) (x y : V) (v u : Value) (Q : VK), Inv X pins σ H s → RelV x v → RelV y u → r x y H Q →
    subscripted slice false v u = operate [v, u] (getItem v u) → wpAny (model X.prog X.w) X.A (subscriptTail value slice v u) (EP X pins σ Q) X.xe s
noncomputable def MtR (X : Cx) (id : String) (r : V → List V → Hp → VK → Prop) : Prop :=
  ∀ (pins : List (Addr × Obj)) (s : Shared) (σ : St) (H : Hp) (x : V) (xs : List V) (v : Value) (us : List Value) (Q : VK), Inv X pins σ H s → RelV x v → Vals xs us → r x xs H Q →
    wpAny (model X.prog X.w) X.A (call (.builtin id) (v :: us)) (EP X pins σ Q) X.xe s
section
variable {X : Cx} {a b : Expr} {ta tb : TE} {pos : Pos}
theorem IxR.or {r r' : R2} (h : IxR X r) (h' : IxR X r') : IxR X (fun x y H Q => r x y H Q ∨ r' x y H Q) := by
  intro value slice pins s σ H x y v u Q I rx ry q hs
  rcases q with q | q
  · exact h value slice pins s σ H x y v u Q I rx ry q hs
  · exact h' value slice pins s σ H x y v u Q I rx ry q hs
theorem pe_ix {r : R2} (hr : IxR X r) (ha : PE X a ta) (hb : PE X b tb) (hs : PlainIx b) : PE X (.Subscript a b pos) (tOp r ta tb) := by
  intro pins s σ H Q I h
  exact Subscript_ (binT ha hb I h fun v u s2 x y H2 I2 rx ry q => hr a b pins s2 σ H2 x y v u Q I2 rx ry q (hs _ _))
noncomputable def rIxL (K : PySem.W.Frag) : R2 := fun x y H Q => ∃ p xs i v, x = .ref p ∧ y = .int i ∧ SqL K H p xs ∧ atI xs i = some v ∧ Q v H
noncomputable def rIxT (K : PySem.W.Frag) : R2 := fun x y H Q => ∃ p xs i v, x = .ref p ∧ y = .int i ∧ SqT K H p xs ∧ atI xs i = some v ∧ Q v H
noncomputable def rIxS : R2 := fun x y H Q => ∃ z i c, x = .str z ∧ y = .int i ∧ z.length ≤ sizeLine ∧ atI z.cps.toList i = some c ∧ Q (.str ⟨#[c]⟩) H
theorem ix_list : IxR X (rIxL X.K) := by
  intro value slice pins s σ H x y v u Q I rx ry h hs
  obtain ⟨p, xs, i, z, rfl, rfl, hq, he, q⟩ := h
  cases rx
  obtain ⟨t, rfl⟩ := ry
  obtain ⟨its, r, pl, hz⟩ := I.list hq
  obtain ⟨j, h1, h2, h3, h4, h5⟩ := atI_get he
  obtain ⟨w, ew, rw'⟩ := r.get h2
  have hl := r.length
  have hn := line63
  have fin : EP X pins σ Q w s := ⟨z, H, I, rw', q⟩
  by_cases h0 : 0 ≤ i
  · have hj : i.toNat = j := by
      rw [seqIndex_of h0 h5] at h1
      exact Option.some.inj h1
    exact item_listR pl.isList h0 (by omega) (by rw [hj]; simpa using ew) fin hs
  · have hj : (i + (its.toArray.size : Int)).toNat = j := by
      rw [seqIndex_neg (by omega) h4] at h1
      rw [List.size_toArray, ← hl]
      exact Option.some.inj h1
    exact subscriptTail_builtinR (x := w) pl.isList.typeIs slot_list_getitem.lookup
      (wpAny_getItem_list_neg (Q := fun r s' => r = w ∧ EP X pins σ Q r s') pl.isList (by omega) (by rw [List.size_toArray] <;> omega) (by omega) (by rw [hj]; simpa using ew) ⟨rfl, fin⟩) hs
theorem ix_tup : IxR X (rIxT X.K) := by
  intro value slice pins s σ H x y v u Q I rx ry h hs
  obtain ⟨p, xs, i, z, rfl, rfl, hq, he, q⟩ := h
  cases rx
  obtain ⟨t, rfl⟩ := ry
  obtain ⟨its, r, pl, hz⟩ := I.tuple hq
  obtain ⟨j, h1, h2, h3, h4, h5⟩ := atI_get he
  obtain ⟨w, ew, rw'⟩ := r.get h2
  have hl := r.length
  have hn := line63
  have fin : EP X pins σ Q w s := ⟨z, H, I, rw', q⟩
  exact subscriptTail_builtinR (x := w) pl.typeIs slot_tuple_getitem.lookup
    (getItem_tuple (j := j) (Q := fun r s' => r = w ∧ EP X pins σ Q r s') pl (by omega) (by omega) (by rw [List.size_toArray, ← hl]; exact h1) (by simpa using ew) ⟨rfl, fin⟩) hs
theorem ix_str : IxR X rIxS := by
  intro value slice pins s σ H x y v u Q I rx ry h hs
  obtain ⟨z, i, c, rfl, rfl, hz, he, q⟩ := h
  obtain ⟨t, rfl⟩ := rx
  obtain ⟨t', rfl⟩ := ry
  obtain ⟨j, h1, h2, h3, h4, h5⟩ := atI_get he
  have hl : z.cps.toList.length = z.length := by simp [Str.length]
  rw [hl] at h1 h4 h5
  have hn := line63
  exact tail_any (typeIs_str s z t) slot_str_getitem.lookup (getItem_str (c := c) (by
    have e1 : decide (i < -(2 ^ 63 : Int)) = false := decide_eq_false (by omega)
    have e2 : decide (i ≥ 2 ^ 63) = false := decide_eq_false (by omega)
    rw [e1, e2, Bool.or_false]) (by rw [h1]; simpa using h2) ⟨.str ⟨#[c]⟩, H, I.tok _, ⟨_, rfl⟩, q⟩) hs
noncomputable def rIx (K : PySem.W.Frag) : R2 := fun x y H Q => rIxL K x y H Q ∨ rIxT K x y H Q ∨ rIxS x y H Q
theorem ix_seq : IxR X (rIx X.K) := ix_list.or (ix_tup.or ix_str)
theorem slice_bounds (lo hi : Option Int) (n : Nat) : (sliceBounds lo hi none n).1 = ((HT.sIx n 0 lo : Nat) : Int) ∧ (sliceBounds lo hi none n).2.1 = ((HT.sIx n n hi : Nat) : Int) ∧ (sliceBounds lo hi none n).2.2 = 1 := by
  refine ⟨?_, ?_, rfl⟩
  · cases lo with
    | none => simp [sliceBounds, HT.sIx]
    | some i =>
      simp only [sliceBounds, HT.sIx, Option.getD_none, show (1 : Int) > 0 by decide, if_true]
      by_cases h : i < 0
      · simp only [h, if_true] <;> omega
      · simp only [h, if_false] <;> omega
  · cases hi with
    | none => simp [sliceBounds, HT.sIx]
    | some i =>
      simp only [sliceBounds, HT.sIx, Option.getD_none, show (1 : Int) > 0 by decide, if_true]
      by_cases h : i < 0
      · simp only [h, if_true] <;> omega
      · simp only [h, if_false] <;> omega
theorem slicePick_cut (its : List Value) (lo hi : Option Int) : slicePick its.toArray lo hi none = ((its.drop (HT.sIx its.length 0 lo)).take (HT.sIx its.length its.length hi - HT.sIx its.length 0 lo)).toArray := by
  obtain ⟨h1, h2, h3⟩ := slice_bounds lo hi its.toArray.size
  unfold slicePick
  rw [h1, h2, h3]
  simp only [sliceRange_one, pick_run, List.size_toArray] <;> rfl
noncomputable def rSlL (K : PySem.W.Frag) : V → Option Int → Option Int → Hp → VK → Prop := fun x lo hi H Q => ∃ a xs, x = .ref a ∧ SqL K H a xs ∧ ∀ p, H p = none → Q (.ref p) (upd H p (.lst (cutV xs lo hi)))
theorem sl_list : SlR X (rSlL X.K) := by
  intro pins s σ H x v vl vu lo hi sl Q I rx hs pl pu h
  obtain ⟨a, xs, rfl, hx, q⟩ := h
  cases rx
  obtain ⟨its, r, ht, hz⟩ := I.list hx
  have hlen := r.length
  refine ⟨"list", _, slot_list_getitem.lookup, ht.isList.typeIs, ?_⟩
  refine wpAny_getItem_list_slice ht.isList hs pl pu .none (by simp) ?_ (by rw [List.size_toArray] <;> omega)
  rw [slicePick_cut, ← hlen]
  refine ⟨.ref s.heap.objs.size, _, I.laid (t' := s.toks) (o := .lst (cutV xs lo hi)) (fun b ob q => Heap.get?_push_of_some _ q) (Nat.le_refl _) ?_, rfl, q _ (I.hok.fresh (Nat.le_refl _))⟩
  exact ⟨Nat.le_trans (cutV_length xs lo hi) hz, _, 0, (r.drop (HT.sIx xs.length 0 lo)).take (HT.sIx xs.length xs.length hi - HT.sIx xs.length 0 lo), Heap.get?_push_size _ rfl⟩
theorem call_list_of : CallR X (.type "list") (fun xs H Q => ∃ p ys, xs = [.ref p] ∧ (SqL X.K H p ys ∨ SqT X.K H p ys) ∧ ∀ l, H l = none → Q (.ref l) (upd H l (.lst ys))) := by
  intro pins s σ H xs us Q I r h
  obtain ⟨p, ys, rfl, hq, q⟩ := h
  obtain ⟨u, rfl, rx⟩ := vals1 r
  cases rx
  have fin : ∀ (its : List Value), Vals ys its → ys.length ≤ sizeLine → ∀ (h' : Heap) (c' : Nat), (∀ b o', s.heap.get? b = some o' → h'.get? b = some o') →
      h'.get? s.heap.objs.size = some { cls := .type "list", dict := none, data := .seq its.toArray c', slots := #[] } → EP X pins σ Q (.ref s.heap.objs.size) { s with heap := h' } := fun its r' hz h' c' kp e =>
    ⟨.ref s.heap.objs.size, _, I.laid (t' := s.toks) kp (Nat.le_refl _) (show ObjOk X.prog X.w _ h' _ (.lst ys) from ⟨hz, its, c', r', e⟩), rfl, q _ (I.hok.fresh (Nat.le_refl _))⟩
  rcases hq with hq | hq
  · obtain ⟨its, r', pl, hz⟩ := I.list hq
    have hlen := r'.length
    obtain ⟨o, ho, hc, n, hd⟩ := pl.isList
    exact call_list_seq p (.inl rfl) ho hc hd (fun h' c' kp e => fin its r' hz h' c' kp e) (by simp only [List.size_toArray] <;> omega)
  · obtain ⟨its, r', pl, hz⟩ := I.tuple hq
    have hlen := r'.length
    obtain ⟨o, ho, hc, n, hd⟩ := pl
    exact call_list_seq p (.inr rfl) ho hc hd (fun h' c' kp e => fin its r' hz h' c' kp e) (by simp only [List.size_toArray] <;> omega)
theorem call_tuple_of : CallR X (.type "tuple") (fun xs H Q => ∃ p ys, xs = [.ref p] ∧ ((SqL X.K H p ys ∧ ∀ l, H l = none → Q (.ref l) (upd H l (.tup ys))) ∨ (SqT X.K H p ys ∧ Q (.ref p) H))) := by
  intro pins s σ H xs us Q I r h
  obtain ⟨p, ys, rfl, h⟩ := h
  obtain ⟨u, rfl, rx⟩ := vals1 r
  cases rx
  rcases h with ⟨hq, q⟩ | ⟨hq, q⟩
  · obtain ⟨its, r', pl, hz⟩ := I.list hq
    have hlen := r'.length
    refine call_tuple_list pl.isList (fun h' kp => ?_) (by simp only [List.size_toArray] <;> omega)
    have I1 : Inv X pins σ H { s with heap := h' } := I.kept (t' := s.toks) kp
    have I2 : Inv X pins σ (upd H h'.objs.size (.tup ys)) { s with heap := h'.push { cls := .type "tuple", data := .seq its.toArray } } :=
      I1.laid (t' := s.toks) (fun b o e => Heap.get?_push_of_some _ e) (Nat.le_refl _) (show ObjOk X.prog X.w _ _ _ (.tup ys) from ⟨hz, its, r', TupX.new _ _⟩)
    exact ⟨.ref h'.objs.size, _, I2, rfl, q _ (I1.hok.fresh (Nat.le_refl _))⟩
  · obtain ⟨its, r', pl, hz⟩ := I.tuple hq
    exact call_tuple_same pl ⟨.ref p, H, I, rfl, q⟩
noncomputable def tyV (K : PySem.W.Frag) (T : String) (x : V) (H : Hp) : Prop := match x with
  | .str _ => T = "str"
  | .int _ => T = "int"
  | .ref p => (T = "list" ∧ ∃ xs, SqL K H p xs) ∨ (T = "tuple" ∧ ∃ o, K.lookup p = some o ∧ o.cls = .type "tuple" ∧ o.dict = none) ∨
      (T = "dict" ∧ ((∃ kvs, H p = some (.dK kvs)) ∨ ∃ kvs, H p = some (.dT kvs))) ∨ (T = "set" ∧ ∃ S n, H p = some (.set S n))
  | _ => False
theorem tyV_is {pins : List (Addr × Obj)} {σ : St} {H : Hp} {s : Shared} {T : String} {x : V} {v : Value} (I : Inv X pins σ H s) (r : RelV x v) (ty : tyV X.K T x H) :
    s.TypeIs v T ∧ ∀ a, v = .ref a → ∃ ob, s.heap.get? a = some ob ∧ ob.dict = none := by
  cases x with
  | str z =>
    obtain ⟨t, rfl⟩ := r
    cases (show T = "str" from ty)
    exact ⟨typeIs_str s z t, fun _ e => nomatch e⟩
  | int i =>
    obtain ⟨t, rfl⟩ := r
    cases (show T = "int" from ty)
    exact ⟨typeIs_int s i t, fun _ e => nomatch e⟩
  | ref p =>
    cases r
    rcases ty with ⟨rfl, xs, hq⟩ | ⟨rfl, o, hk, hc, hd⟩ | ⟨rfl, hk⟩ | ⟨rfl, S, n, hk⟩
    · obtain ⟨its, _, pl, _⟩ := I.list hq
      refine ⟨pl.isList.typeIs, fun a e => ?_⟩
      cases e
      obtain ⟨o, n, e, c, hd, _⟩ := pl
      exact ⟨o, e, hd⟩
    · refine ⟨⟨o, I.kIn p o hk, hc⟩, fun a e => ?_⟩
      cases e
      exact ⟨o, I.kIn _ o hk, hd⟩
    · have z : ∃ o, s.heap.get? p = some o ∧ o.ExactDict := by
        rcases hk with ⟨kvs, hk⟩ | ⟨kvs, hk⟩
        · obtain ⟨_, _, _, _, o, _, _, e, ex, _⟩ := I.hok p _ hk
          exact ⟨o, e, ex⟩
        · obtain ⟨_, _, _, _, o, _, _, e, ex, _⟩ := I.hok p _ hk
          exact ⟨o, e, ex⟩
      obtain ⟨o, e, ex⟩ := z
      refine ⟨⟨o, e, ex.1⟩, fun a e2 => ?_⟩
      cases e2
      exact ⟨o, e, ex.2.1⟩
    · obtain ⟨o, _, _, _, e, ex, _⟩ := I.hok p _ hk
      refine ⟨⟨o, e, ex.1⟩, fun a e2 => ?_⟩
      cases e2
      exact ⟨o, e, ex.2.1⟩
  | _ => exact False.elim ty
noncomputable def tBM (K : PySem.W.Frag) (T : String) (r : V → List V → Hp → VK → Prop) (to : TE) (t : TA) : TE := fun σ H Q => to σ H fun x H1 => tyV K T x H1 ∧ t σ H1 fun xs H2 => r x xs H2 Q
variable {o e : Expr} {es : List Expr} {to : TE} {t : TA} {name : Str} {apos cpos : Pos} {T id : String} {r : V → List V → Hp → VK → Prop}
theorem pe_bm (pa : PlainAttrs T) (slot : Slot T name id) (hty : typeOf (.builtin id) = pure (.type "method_descriptor")) (hm : MtR X id r) (ho : PE X o to) (ha : PA X (e :: es) t)
    (hbase : attributeBase o name X.env (eval o X.env) = eval o X.env := by rfl)
    (hfew : ((backTo cpos (starEach (e :: es) X.env)).all (fun x => !x.1) && (backToKw cpos (keywordEach [] X.env)).all (fun x => x.1.isSome)
      && decide ((e :: es).length + ([] : List Keyword).length + (if ([] : List Keyword).isEmpty then 0 else 1) < 30)) = true := by rfl)
    (hline : (apos.endLine == cpos.line) = true := by rfl) (hs : starEach (e :: es) X.env = (false, eval e X.env) :: starEach es X.env := by rfl) (hplain : (backTo cpos (starEach es X.env)).any (·.1) = false := by rfl) :
    PE X (.Call (.Attribute o name apos) (e :: es) [] cpos) (tBM X.K T r to t) := by
  intro pins s σ H Q I h
  refine wpAny_Call_method_late hbase hfew hline rfl (thn (ho pins s σ H _ I h) fun v s1 ⟨x, H1, I1, r1, ty, q1⟩ => ?_)
  obtain ⟨h1, h2⟩ := tyV_is I1 r1 ty
  refine ⟨T, id, pa, slot, hty, h1, h2, ?_⟩
  have hA := ha cpos pins s1 σ H1 _ I1 q1
  rw [hs] at hA ⊢
  refine Calls.callWith_builtin (by show (false || (backTo cpos (starEach es X.env)).any (·.1)) = false; rw [hplain] <;> rfl) (Calls.evalArgs_plain ?_)
  exact thn hA fun us s2 ⟨vs, H2, I2, r2, q2⟩ => hm pins s2 σ H2 x vs v us Q I2 r1 r2 q2
/- xs.append(e), list.index on a module's tuple .. are MtR facts of 06m -/
end
end L2
namespace L2
open PySem PySem.Spec PyProof.Rows
noncomputable def MtM (X : Cx) (id : String) (r : V → List V → Hp → VK → Prop) : Prop :=
  ∀ (pins : List (Addr × Obj)) (s : Shared) (σ : St) (H : Hp) (x : V) (xs : List V) (v : Value) (us : List Value) (Q : VK), Inv X pins σ H s → RelV x v → Vals xs us → r x xs H Q →
    wpAny (model X.prog X.w) X.A (call (.builtin id) (v :: us)) (EP X pins σ Q) X.xe s
theorem Vals.one : ∀ {x : V} {us : List Value}, Vals [x] us → ∃ u, us = [u] ∧ RelV x u
  | _, _, .cons r .nil => ⟨_, rfl, r⟩
theorem Vals.rep {xs : List V} {us : List Value} (h : Vals xs us) : ∀ k : Nat, Vals (List.replicate k xs).flatten (List.replicate k us).flatten
  | 0 => .nil
  | k + 1 => by
    rw [List.replicate_succ, List.replicate_succ, List.flatten_cons, List.flatten_cons]
    exact Vals.append h (Vals.rep h k)
theorem foldl_rep (its : List Value) : ∀ (k : Nat) (acc : List Value),
    List.foldl (fun x1 x2 => x1 ++ x2) acc.toArray (List.replicate k its.toArray) = (acc ++ (List.replicate k its).flatten).toArray
  | 0, acc => by simp
  | k + 1, acc => by
    have e : acc.toArray ++ its.toArray = (acc ++ its).toArray := by simp
    have e2 : (acc ++ its) ++ (List.replicate k its).flatten = acc ++ (List.replicate (k + 1) its).flatten := by
      rw [List.replicate_succ, List.flatten_cons, List.append_assoc]
    rw [← e2, ← foldl_rep its k (acc ++ its), ← e, List.replicate_succ, List.foldl_cons]
section
variable {X : Cx} {pins : List (Addr × Obj)} {σ : St} {H : Hp} {s : Shared} {l b : Addr} {xs ys zs : List V}
theorem Inv.lset {its its' : List Value} {n : Nat} {f : Array Value → Array Value} {t' : Nat} (I : Inv X pins σ H s) (hH : H l = some (.lst xs))
    (e : s.heap.get? l = some { cls := .type "list", data := .seq its.toArray n }) (hf : f its.toArray = its'.toArray) (hv : Vals ys its') (hz : ys.length ≤ sizeLine) :
    Inv X pins σ (upd H l (.lst ys)) { s with heap := s.heap.update l (Obj.mapSeq f), toks := t' } := by
  have q := PySem.IsL.update e f
  rw [hf] at q
  refine I.write (x := l) (e := l) (by rw [hH]; exact trivial) (.inl rfl) (fun b' u hb hu => (Heap.get?_update_other s.heap (Obj.mapSeq f) (Ne.symm hb)).trans hu) ⟨_, q⟩ ?_
  exact ⟨hz, its', _, hv, q⟩
theorem Inv.lnew {its : List Value} {t' : Nat} (I : Inv X pins σ H s) (hv : Vals ys its) (hz : ys.length ≤ sizeLine) :
    Inv X pins σ (upd H s.heap.objs.size (.lst ys)) { s with heap := s.heap.push { cls := .type "list", data := .seq its.toArray }, toks := t' } :=
  I.laid (fun _ _ q => Heap.get?_push_of_some _ q) (Nat.le_refl _) ⟨hz, its, 0, hv, Heap.get?_push_size _ rfl⟩
theorem Inv.fresh (I : Inv X pins σ H s) : H s.heap.objs.size = none := I.hok.fresh (Nat.le_refl _)
theorem Inv.lstM (I : Inv X pins σ H s) (hH : H l = some (.lst xs)) : xs.length ≤ sizeLine ∧ ∃ (its : List Value) (n : Nat), Vals xs its ∧ xs.length = its.length ∧ s.heap.get? l = some { cls := .type "list", data := .seq its.toArray n } := by
  obtain ⟨z, its, n, r, e⟩ := I.hok l _ hH
  exact ⟨z, its, n, r, r.length, e⟩
theorem notLongL {n : Nat} (h : n ≤ sizeLine) : Builtin.List.listTooLong n = false := by
  unfold Builtin.List.listTooLong
  exact decide_eq_false (by omega)
end
section
variable {X : Cx}
noncomputable def rAppend : V → List V → Hp → VK → Prop := fun x vs H Q => ∃ l xs y, x = .ref l ∧ vs = [y] ∧ H l = some (.lst xs) ∧ xs.length < sizeLine ∧ Q .non (upd H l (.lst (xs ++ [y])))
theorem mt_append : MtM X "list.append" rAppend := by
  intro pins s σ H x vs v us Q I rx rv h
  obtain ⟨l, xs, y, rfl, rfl, hH, hz, q⟩ := h
  cases rx
  obtain ⟨u, rfl, ru⟩ := rv.one
  obtain ⟨z, its, n, r, hl, e⟩ := I.lstM hH
  refine call_meets F.slot_list_append ⟨_, e, rfl⟩ F.entry_list_append (F.args_list_append_2 _ _) (PySem.list_append l its.toArray n u (by rw [List.size_toArray]; omega)) ⟨e, ?_⟩
  refine ⟨.non, _, I.lset (its' := its ++ [u]) hH e (by simp) (r.append (.cons ru .nil)) ?_, rfl, q⟩
  rw [List.length_append, List.length_singleton]
  omega
noncomputable def rExtend : V → List V → Hp → VK → Prop := fun x vs H Q => ∃ l b xs zs, x = .ref l ∧ vs = [.ref b] ∧ H l = some (.lst xs) ∧ H b = some (.lst zs) ∧ xs.length + zs.length ≤ sizeLine ∧ Q .non (upd H l (.lst (xs ++ zs)))
theorem mt_extend : MtM X "list.extend" rExtend := by
  intro pins s σ H x vs v us Q I rx rv h
  obtain ⟨l, b, xs, zs, rfl, rfl, hH, hB, hz, q⟩ := h
  cases rx
  obtain ⟨u, rfl, ru⟩ := rv.one
  cases ru
  obtain ⟨z, its, n, r, hl, e⟩ := I.lstM hH
  obtain ⟨z2, its2, n2, r2, hl2, e2⟩ := I.lstM hB
  have hsz : its.toArray.size + its2.toArray.size ≤ sizeLine := by rw [List.size_toArray, List.size_toArray]; omega
  have hlong : ¬ (!its.toArray.isEmpty && Builtin.List.listTooLong (its.toArray.size + its2.toArray.size)) = true := by
    rw [notLongL hsz, Bool.and_false]
    exact Bool.false_ne_true
  refine call_meets F.slot_list_extend ⟨_, e, rfl⟩ F.entry_list_extend (F.args_list_extend_2 _ _)
    (AutoSeq1.list_extend_list_list_0 l its.toArray n b its2.toArray n2 hlong (by rw [List.size_toArray]; omega) (by omega)) ⟨e, e2, ?_⟩
  refine ⟨.non, _, I.lset (its' := its ++ its2) hH e (by simp) (r.append r2) ?_, rfl, q⟩
  rw [List.length_append]
  omega
theorem len_rep {α : Type} (xs : List α) (k : Nat) : (List.replicate k xs).flatten.length = k * xs.length := by
  induction k with
  | zero => simp
  | succ k ih => rw [List.replicate_succ, List.flatten_cons, List.length_append, ih, Nat.succ_mul, Nat.add_comm]
end
section
variable {prog : Program} {w : World} {A : Around} {E : Value → Shared → Prop} {s : Shared}
set_option maxRecDepth 100000 in
end
section
variable {X : Cx}
end
end L2
namespace Att
open PySem PySem.W PySem.Calls PyProof.Rows
theorem ints_of_wellAll {P : Params} {h : Heap} : ∀ (ns : List Int) (vs : List Value), WellAll P h vs (ns.map WData.int) → IntsAre vs ns := by
  intro ns
  induction ns with
  | nil =>
    intro vs w
    rw [List.map_nil] at w
    cases w
    exact .nil
  | cons n ns ih =>
    intro vs w
    rw [List.map_cons] at w
    cases w with
    | cons a b =>
      cases a
      exact .cons _ _ (ih _ b)
theorem script_of {l : OpenLaw} {n : Nat} (hn : l.most = some n) {P : Params} {h : Heap} {args : List WData} {vals : List Value}
    (hpre : l.row.toRowW.claim.pre args = true) (hwl : WellAll P h vals args) :
    ∃ a vs ns, vals = [Value.ref a] ∧ args = [WData.list (ns.map WData.int)] ∧ h.get? a = some { cls := .type "list", data := .seq vs.toArray } ∧ IntsAre vs ns ∧ ns.length ≤ n := by
  have hsh : WShape.hasAll [] args [.list .int] = true := (pre_splitW hpre).1
  have hc : l.pre.holds [] { args := args } = true := (pre_splitW hpre).2
  obtain ⟨d, r, rfl, h1, h2⟩ := hasAllW_cons hsh
  obtain rfl := hasAllW_nil h2
  obtain ⟨xs, rfl, h3⟩ := hasW_list h1
  obtain ⟨ns, rfl⟩ := items_int h3
  have hlen : ns.length ≤ n := by
    unfold OpenLaw.pre at hc
    have h4 : (WTm.not (.lt (.lit (.int (n : Int))) (.len (.arg 0)))).holds [] { args := [.list (ns.map .int)] } = true := by
      have h4 := (holds_andW hc).1
      rw [hn] at h4
      exact h4
    have h5 := condW_of h4 (w_not (w_lt w_lit (w_len_list (w_arg rfl))))
    rw [List.length_map] at h5
    refine Nat.le_of_not_lt fun q => ?_
    have q' : (n : Int) < ((ns.length : Nat) : Int) := by omega
    first
      | (rw [decide_eq_true q'] at h5; exact absurd h5 (by decide))
      | (simp at h5; omega)
  cases hwl with
  | cons w1 w2 =>
    cases w2
    cases w1 with
    | list ho hall => exact ⟨_, _, ns, rfl, rfl, ho, ints_of_wellAll ns _ hall, hlen⟩
theorem post_true (l : OpenLaw) (args : List WData) : l.row.toRowW.claim.post args (.bool true) args = true :=
  postW_of (r := l.row.toRowW) (X := (true == true))
    (show WShape.has [] (.bool true) .bool = true by first | rfl | decide | simp [WShape.has, WShape.arms, WShape.armsAll])
    (show (WTm.eq .res (.lit (.bool true))).value [] { args := args, res := some (.bool true), after := args } = some (.bool (true == true)) from w_eq_bool (w_res rfl) w_lit) rfl
theorem attach_call {l : OpenLaw} {n : Nat} {q : Program} {loose : List Str} {XP : (Str → Option Value) → Heap → Prop} {YP : World → Heap → Prop} {d : DefRec}
    (hn : l.most = some n) (hdf : d.params.defaults = [])
    (call : ∀ (w : World) (s₀ s₁ : Shared) (mg mb : Str → Option Value) (fa : Addr) (o : Obj) (pm cd doc : Value) (a : Addr) (vs : List Value) (ns : List Int),
      Ground q loose [] XP w s₀ mg mb s₁.heap → YP w s₁.heap →
      s₁.heap.get? fa = some o → o.data = .func (docDef d.name d.params d.body d.scope pm cd doc) → s₁.heap.CodeRec cd d.name → mg d.name = some (.ref fa) →
      s₁.heap.get? a = some { cls := .type "list", data := .seq vs.toArray } → IntsAre vs ns → ns.length ≤ n → s₁.gens = #[] →
      codeAny (model l.prog w) callerA (.call (.ref fa) ⟨[.ref a], []⟩) (fun r s' => r = .ok (.ret (.bool true)) ∧ OldK s₁.heap s'.heap ∧ s'.os = s₁.os ∧ AllBare s'.gens) s₁) :
    WalkO q loose XP YP l.row.toRowW d [] (fun f vs => PySem.call f vs) := by
  intro w s₀ s₁ mg mb G Y fa o pm cd doc dV kV ho hd hcd hD hmg hg args vals as hpre hlay hrd hwl hlo
  obtain rfl : dV = .none := Dflts.none hD hdf
  obtain rfl : kV = .none := Dflts.noKw hD
  obtain ⟨a, vs, ns, rfl, rfl, hobj, hints, hlen⟩ := script_of hn hpre hwl
  refine enter_call (codeAny_mono (call w s₀ s₁ mg mb fa o pm cd doc a vs ns G Y ho (fd_plain hd) hcd hmg hobj hints hlen hg) fun r s' hq => ?_)
  obtain ⟨rfl, h2, h3, h4⟩ := hq
  exact ⟨.inl ⟨.bool true, .bool true, [], rfl, fun _ => rfl, .bool true, post_true l _, fun _ => ⟨List.Pairwise.nil, fun _ hm => (nomatch hm)⟩⟩, h2, h3, h4⟩
section
variable {prog : Program} {w : World} {A : Around} {E : Value → Shared → Prop} {s : Shared} {K : Frag}
end
end Att
namespace L2
open PySem PySem.Spec PyProof.Rows
theorem vals_ints : ∀ {vs : List Value} {ns : List Int}, IntsAre vs ns → Vals (ns.map V.int) vs
  | _, _, .nil => .nil
  | _, _, .cons n t h => .cons ⟨t, rfl⟩ (vals_ints h)
noncomputable def Only (H : Hp) : Prop := ∀ b, H b = none ∨ ∃ o xs, H b = some (.frz o (.lst xs))
theorem law_call {P : Program} {w : World} {K : PySem.W.Frag} {mg mb : Str → Option Value} {CX : CXT} {k : Nat} {fa a : Addr} {fd : FuncData} {x : Str} {sp : Sp} {s₁ : Shared} {vs : List Value} {ns : List Int}
    (KX : K.In s₁.heap) (hns : s₁.heap.Ns mainGlobals mg) (hb : s₁.heap.Ns builtinsNs mb) (hbb : ∀ x : Str, x ≠ "__name__" → mb x = bootBuiltins x) (hlim : s₁.heap.NoLimit) (hg : s₁.gens = #[])
    (ha : s₁.heap.get? a = some { cls := .type "list", data := .seq vs.toArray }) (hi : IntsAre vs ns) (hl : ns.length ≤ sizeLine) (hr : Room k callerA)
    (F : ∀ base : Heap, K.In base → base.Ns mainGlobals mg → FnOk P w K mg base CX k fa fd [x] sp) (hbind : ∀ (s : Shared) (u : Value), BindsTo s fd ⟨[u], []⟩ [(x, u)])
    (hsp : ∀ H : Hp, Only H → SqL K H a (ns.map V.int) → sp [.ref a] H (fun v _ => v = .bl true) fun _ _ _ => False)
    (hCX : ∀ H e s', CX [] H s₁ (fun _ _ _ => False) e s' → False) :
    codeAny (model P w) callerA (.call (.ref fa) ⟨[.ref a], []⟩) (fun r s' => r = .ok (.ret (.bool true)) ∧ OldK s₁.heap s'.heap ∧ s'.os = s₁.os ∧ AllBare s'.gens) s₁ := by
  have rv := vals_ints hi
  have lenV := hi.length
  -- from an abstract heap in which nothing but the script may be tracked
  have core : ∀ H : Hp, Only H → SqL K H a (ns.map V.int) → HOk P w H s₁.heap → (∀ b, H b ≠ none → b = a) → (H a ≠ none → K.lookup a = none) →
      codeAny (model P w) callerA (.call (.ref fa) ⟨[.ref a], []⟩) (fun r s' => r = .ok (.ret (.bool true)) ∧ OldK s₁.heap s'.heap ∧ s'.os = s₁.os ∧ AllBare s'.gens) s₁ := by
    intro H hO hS hok hA hK
    have base_of : ∀ {b : Addr} {o : Obj}, s₁.heap.get? b = some o → H b = none → (hidT s₁.heap H).get? b = some o := fun e n => hidT_get e n
    have noA : ∀ {b : Addr} {o : Obj} {es : Array DictEntry} {ep : Nat}, s₁.heap.get? b = some o → o.data = .dict es ep → H b = none := fun {b o es ep} e d => by
      cases q : H b with
      | none => rfl
      | some u =>
        have e' : b = a := hA b (by rw [q]; simp)
        subst e'
        rw [ha] at e; cases e
        have d' : Data.seq vs.toArray _ = Data.dict es ep := d
        cases d'
    have nsK : ∀ {b : Addr} {m : Str → Option Value}, s₁.heap.Ns b m → (hidT s₁.heap H).Ns b m := fun {b m} ⟨o, es, ep, e, d, r⟩ => ⟨o, es, ep, base_of e (noA e d), d, r⟩
    have hKb : K.In (hidT s₁.heap H) := fun b o e => base_of (KX b o e) (by
      cases q : H b with
      | none => rfl
      | some u =>
        have e' : b = a := hA b (by rw [q]; simp)
        subst e'
        rw [hK (by rw [q]; simp)] at e; cases e)
    have hM : Mod K mg (hidT s₁.heap H) := ⟨hKb, nsK hns, ⟨mb, nsK hb, hbb⟩, let ⟨mc, h1, h2⟩ := hlim; ⟨mc, nsK h1, h2⟩⟩
    have e0 : Env0 P w K mg (hidT s₁.heap H) callerA [] s₁ H := ⟨rfl, hM, fun b o e => of_hidT e, Nat.le_of_eq (hidT_size _ _), trivial, fun b hb => absurd (show b ∈ ([] : List Addr) from hb) (by simp), hok, .of_eq hg⟩
    refine codeAny_mono ((F _ hKb (nsK hns)).run callerA [] s₁ H ⟨[.ref a], []⟩ [.ref a] [.ref a] _ _ hr e0 (hbind s₁ (.ref a)) (.cons rfl .nil) (hsp H hO hS)) fun r s' h => ?_
    cases r with
    | error e => exact (hCX H e s' h).elim
    | ok fl =>
      cases fl with
      | next => exact False.elim h
      | brk => exact False.elim h
      | cont => exact False.elim h
      | ret u =>
        obtain ⟨v, H', os, bare, un, hok', r', q⟩ := h
        have q' : v = .bl true := q
        subst q'
        obtain rfl : u = Value.bool true := r'
        refine ⟨rfl, OldK.of_keep fun b o e => ?_, os, bare⟩
        cases q : H b with
        | none => exact un.keep b o e q (by intro z; exact absurd (show b ∈ ([] : List Addr) from z) (by simp)) (by simp)
        | some u =>
          rcases hO b with z | ⟨ob, xs, z⟩
          · rw [q] at z; cases z
          · have z2 := un.frzs b ob _ z
            obtain ⟨e1, _⟩ := hok b _ z
            obtain ⟨e2, _⟩ := hok' b _ z2
            rw [e] at e1; cases e1
            exact e2
  cases hk : K.lookup a with
  | some o =>
    -- the script is one of the module's own objects
    have e := KX a o hk
    rw [ha] at e
    cases e
    refine core (fun _ => none) (fun _ => .inl rfl) (.inr ⟨_, vs.toArray, _, hk, rfl, rfl, rfl, by rw [List.size_toArray, lenV]; exact hl, by simpa using rv⟩) (fun b u z => by have z' : (none : Option HO) = some u := z; cases z') (fun b z => absurd rfl z) fun z => absurd rfl z
  | none =>
    refine core (fun b => if b = a then some (.frz { cls := .type "list", data := .seq vs.toArray } (.lst (ns.map V.int))) else none) (fun b => ?_) (.inl (.inr ⟨{ cls := .type "list", data := .seq vs.toArray }, if_pos rfl⟩)) (fun b u z => ?_) (fun b z => ?_) fun _ => hk
    · by_cases hb : b = a
      · exact .inr ⟨_, _, if_pos hb⟩
      · exact .inl (if_neg hb)
    · by_cases hb : b = a
      · have z' := (if_pos hb).symm.trans z
        cases z'
        subst hb
        exact ⟨ha, by rw [List.length_map]; exact hl, vs, _, rv, ha⟩
      · have z' := (if_neg hb).symm.trans z
        cases z'
    · by_cases hb : b = a
      · exact hb
      · exact absurd (if_neg hb) z
end L2
namespace L2
open PySem PySem.Spec PyProof.Rows
end L2
/- THE LAST THEOREM (shape; LID, My.* are yours):
   My.Adr: a structure of the addresses that your layer names (classes, functions); My.Txt K t: a structure (Prop) of the equations over K;
   My.txt_mk : {K} {implicit addresses ..} (e1 : nsIn K mainGlobals "law" = some (some (.ref f))) (e2 : K.lookup f = some ⟨oc, od, .func (fnOf "law" "law" params body scope dV kV doc pm an cdv ct), sl⟩) (e3 : codeIn K cdv "law" = true) .. : ∃ t, My.Txt K t
set_option maxRecDepth 100000 in
set_option maxHeartbeats 0 in
theorem PySem.Challenge.cw_LID_holds : PySem.Challenge.rw_LID.Holds := by
  w_on; o_law; k_head; (case hw => w_witness2)
  k_fill
  refine L2.walk_of (l := PySem.Challenge.rw_LID) (n := 63) (k := 40) (x := "script") (CX := fun w => ..) (sp := fun _ => My.sp_law) rfl (by decide) rfl ⟨rfl, by decide, by decide⟩ (fun w h Y => PySem.W.kIn_of Y) ?F ?S ?C
  case F =>
    intro w mg fa h KX G hmg
    have T : ∃ t, My.Txt (L2.KOf KX) t := by
      dsimp only [L2.KOf]                          -- K must stand as «<heap const> w.params» for k_is
      refine' My.txt_mk ?e1 ?e2 ?e3 ..
      (case e1 => PySem.W.k_is)                    -- in the order: a name -> its address -> its object -> its parts
      (case e2 => PySem.W.k_is)
      ..
    obtain ⟨t, T⟩ := T
    have e0 := hmg.symm.trans (PySem.W.mg_of KX G T.law)
    cases e0                                       -- fa is the law's own address
    exact ⟨_, fun s u => .of_eq rfl, fun base kb nb => My.law_fn T kb nb⟩     -- if «.of_eq rfl» comes too early: refine' ⟨_, ?b, fun base kb nb => My.law_fn T kb nb⟩; exact fun s u => .of_eq rfl
  case S => exact fun w H a ns hl hO hS => ..
  case C => exact ..
(the tactic k_is has no namespace: write k_is) -/
namespace L2
open PySem PySem.Spec PyProof.Rows
noncomputable def defArgs (s : Stmt) : Arguments := match s with
  | .FunctionDef _ a _ _ _ _ _ _ _ _ => a
  | _ => { posonlyargs := [], args := [], vararg := none, kwonlyargs := [], kw_defaults := [], kwarg := none, defaults := [] }
noncomputable def defBody (s : Stmt) : List Stmt := match s with
  | .FunctionDef _ _ b _ _ _ _ _ _ _ => b
  | _ => []
noncomputable def defScope (s : Stmt) : Scope := match s with
  | .FunctionDef _ _ _ _ _ _ sc _ _ _ => sc
  | _ => { kind := .function, names := [], isGenerator := false, isCoroutine := false }
noncomputable abbrev CX0 : CXT := fun _ _ _ _ _ _ => False
noncomputable abbrev E0 : XK := fun _ _ _ => False
theorem pass0 {X : Cx} : Passes CX0 X E0 := fun _ _ _ _ _ _ _ h => h.elim
structure Fun (K : PySem.W.Frag) (x qual : Str) (st : Stmt) (f : Addr) (fd : FuncData) : Prop where
  ex : ∃ (oc : Value) (od : Option Addr) (kV doc pm : Value) (an : Option Addr) (cdv ct : Value) (osl : Array (Option Value)),
    fd = PySem.W.fnOf x qual (defArgs st) (defBody st) (defScope st) .none kV doc pm an cdv ct ∧ K.lookup f = some ⟨oc, od, .func fd, osl⟩ ∧ PySem.W.codeIn K cdv qual = true
  kp : PySem.W.keepIn K (.ref f) = true
section
variable {P : Program} {w : World} {K : PySem.W.Frag} {mg : Str → Option Value} {base : Heap}
theorem Fun.ok {x qual : Str} {st : Stmt} {f : Addr} {fd : FuncData} {N ps : List Str} {k : Nat} {sp : Sp} (F : Fun K x qual st f fd) (S : FnScope N ps (defScope st)) (len : ∀ vs H Q E, sp vs H Q E → vs.length = ps.length)
    (hbody : ∀ (cdv : Value) (A : Around) (outer : List Env) (s : Shared) (H : Hp) (vs : List V) (Q : VK) (E : XK), Room k (A.deeper (envOfC qual (defScope st) s.heap.objs.size f cdv)) → sp vs H Q E →
      ∃ t, PSs (cxOf CX0 P w K mg base N qual (defScope st) f cdv A outer s H E).nox (defBody st) t ∧ t { nx := fun _ H' => Q .non H', rt := Q } (start N vs) H) : FnOk P w K mg base CX0 (k + 1) f fd ps sp := by
  obtain ⟨oc, od, kV, doc, pm, an, cdv, ct, osl, rfl, lk, hcd⟩ := F.ex
  refine fn_of lk hcd S len fun A outer s H vs Q E hr hsp => ?_
  obtain ⟨t, h, q⟩ := hbody cdv A outer s H vs Q E hr hsp
  exact ⟨t, h.nox, q⟩
theorem Fun.binds {x qual : Str} {st : Stmt} {f : Addr} {fd : FuncData} {ps : List Str} (F : Fun K x qual st f fd)
    (h : ∀ (kV doc pm : Value) (an : Option Addr) (cdv ct : Value) (us : List Value), us.length = ps.length → bindArgs (PySem.W.fnOf x qual (defArgs st) (defBody st) (defScope st) .none kV doc pm an cdv ct) ⟨us, []⟩ = pure (ps.zip us)) : Binds K fd ps [] := by
  obtain ⟨oc, od, kV, doc, pm, an, cdv, ct, osl, rfl, lk, hcd⟩ := F.ex
  exact .all (h kV doc pm an cdv ct)
theorem fun_mk {x qual : Str} {st : Stmt} {f : Addr} {oc : Value} {od an : Option Addr} {osl : Array (Option Value)} {kV doc pm cdv ct : Value} (l : K.lookup f = some ⟨oc, od, .func (PySem.W.fnOf x qual (defArgs st) (defBody st) (defScope st) .none kV doc pm an cdv ct), osl⟩)
    (c : PySem.W.codeIn K cdv qual = true) (k : PySem.W.keepIn K (.ref f) = true) : Fun K x qual st f (PySem.W.fnOf x qual (defArgs st) (defBody st) (defScope st) .none kV doc pm an cdv ct) := ⟨⟨oc, od, kV, doc, pm, an, cdv, ct, osl, rfl, l, c⟩, k⟩
end
theorem hu_of {A : Around} {k : Nat} (hr : Room k A) : A.units + 1 < cLine := Nat.lt_of_le_of_lt (Nat.add_le_add_left (by decide : 1 ≤ 64) _) hr.units
section
variable {X : Cx}
theorem pv (i : Nat) {x : Str} {pos : Pos} (hN : X.N[i]? = some x := by rfl) (hv : Vis X.env.scope x := by first | exact Or.inl rfl | exact Or.inr (Or.inl rfl) | exact Or.inr (Or.inr rfl)) (hd : (x == ("__debug__" : Str)) = false := by decide)
    (hcd : (x == ("__classdict__" : Str)) = false := by decide) : PE X (.Name x pos) (tVar i) := pe_var hN hv hd hcd
end
noncomputable def Same (H H' : Hp) : Prop := ∀ b o, H b = some o → H' b = some o
theorem Same.refl (H : Hp) : Same H H := fun _ _ h => h
theorem Same.trans {H H1 H2 : Hp} (a : Same H H1) (b : Same H1 H2) : Same H H2 := fun c o h => b c o (a c o h)
theorem Same.free {H H' : Hp} (e : Same H H') {l : Addr} (h : H' l = Option.none) : H l = Option.none := by
  cases q : H l with
  | none => rfl
  | some o =>
    rw [e l o q] at h
    cases h
end L2
set_option maxHeartbeats 4000000
namespace L2
open PySem PySem.Spec PyProof.Rows
section
variable {X : Cx} {pins : List (Addr × Obj)} {σ : St} {H : Hp} {s : Shared} {h' : Heap}
end
mutual
inductive DV (K : PySem.W.Frag) (H : Hp) : V → PyData → Prop
  | non : DV K H .non .none
  | bl (b : Bool) : DV K H (.bl b) (.bool b)
  | int (i : Int) : DV K H (.int i) (.int i)
  | str (x : Str) : DV K H (.str x) (.str x)
  | tup {a : Addr} {xs : List V} {ds : List PyData} : SqT K H a xs → DVs K H xs ds → DV K H (.ref a) (.tuple ds)
  | lst {a : Addr} {xs : List V} {ds : List PyData} : SqL K H a xs → DVs K H xs ds → DV K H (.ref a) (.list ds)
inductive DVs (K : PySem.W.Frag) (H : Hp) : List V → List PyData → Prop
  | nil : DVs K H [] []
  | cons {v : V} {vs : List V} {d : PyData} {ds : List PyData} : DV K H v d → DVs K H vs ds → DVs K H (v :: vs) (d :: ds)
end
section
variable {X : Cx} {pins : List (Addr × Obj)} {σ : St} {H : Hp} {s : Shared}
mutual
theorem DV.reads (I : Inv X pins σ H s) : ∀ {v : V} {d : PyData} {u : Value}, DV X.K H v d → RelV v u → ∃ as, Reads s.heap u d as
  | _, _, _, .non, r => by cases r; exact ⟨_, .none⟩
  | _, _, _, .bl b, r => by cases r; exact ⟨_, .bool b⟩
  | _, _, _, .int i, r => by obtain ⟨t, rfl⟩ := r; exact ⟨_, .int i t⟩
  | _, _, _, .str x, r => by obtain ⟨t, rfl⟩ := r; exact ⟨_, .str x t⟩
  | _, _, _, .tup h hs, r => by
    cases r
    obtain ⟨its, rv, ⟨o, e, c, n, d⟩, _⟩ := I.tuple h
    obtain ⟨as, q⟩ := DVs.reads I hs rv
    exact ⟨_, .tuple e c d (by simpa using q)⟩
  | _, _, _, .lst h hs, r => by
    cases r
    obtain ⟨its, rv, ⟨o, n, e, c, _, d⟩, _⟩ := I.list h
    obtain ⟨as, q⟩ := DVs.reads I hs rv
    exact ⟨_, .list e c d (by simpa using q)⟩
theorem DVs.reads (I : Inv X pins σ H s) : ∀ {vs : List V} {ds : List PyData} {us : List Value}, DVs X.K H vs ds → Vals vs us → ∃ as, ReadsAll s.heap us ds as
  | _, _, _, .nil, r => by cases r; exact ⟨_, .nil⟩
  | _, _, _, .cons h hs, r => by
    cases r with
    | cons r1 r2 =>
      obtain ⟨as, q⟩ := DV.reads I h r1
      obtain ⟨bs, q2⟩ := DVs.reads I hs r2
      exact ⟨_, .cons q q2⟩
end
end
noncomputable def rEqD (K : PySem.W.Frag) (neg : Bool) : R2 := fun x y H Q => ∃ dx dy, DV K H x dx ∧ DV K H y dy ∧ dx.canLay0 = true ∧ dy.canLay0 = true ∧ dx.depth ≤ 64 ∧ Q (.bl (if neg then !PyData.eqv dx dy else PyData.eqv dx dy)) H
section
variable {X : Cx}
theorem op_eqD (hu : X.A.units + 64 < cLine) : OpR X (compareOp .Eq) (rEqD X.K false) := by
  intro pins s σ H x y v u Q I rx ry h
  obtain ⟨dx, dy, h1, h2, l1, l2, hd, q⟩ := h
  obtain ⟨as, r1⟩ := h1.reads I rx
  obtain ⟨bs, r2⟩ := h2.reads I ry
  exact PySem.SeqAt.compareEq_reads r1 r2 l1 l2 (by omega) ⟨.bl _, H, I, rfl, q⟩
theorem op_neD (hu : X.A.units + 64 < cLine) : OpR X (compareOp .NotEq) (rEqD X.K true) := by
  intro pins s σ H x y v u Q I rx ry h
  obtain ⟨dx, dy, h1, h2, l1, l2, hd, q⟩ := h
  obtain ⟨as, r1⟩ := h1.reads I rx
  obtain ⟨bs, r2⟩ := h2.reads I ry
  exact PySem.SeqAt.compareNe_reads r1 r2 l1 l2 (by omega) ⟨.bl _, H, I, rfl, q⟩
theorem op_fdivL : OpR X (binaryOp .FloorDiv) (rI (fun _ j => 0 < j ∧ j.natAbs.log2 < 9000) fun i j => .int (i / j)) := opI fun i j _ _ _ _ _ hc q => by
  have h1 : (0 : Int) < j := hc.1
  exact floordiv_int (by omega) (by rw [Int.fdiv_eq_ediv_of_nonneg i (by omega)]; exact q) (.inl (PyProof.noPylong_of_log2 hc.2))
end
end L2
namespace L2
open PySem PySem.Spec PyProof.Rows
noncomputable def clOf (env : Env) : List (Str × NameKind) → List (Str × Addr) → List (Str × Addr)
  | [], acc => acc
  | (n, k) :: r, acc => if (k == NameKind.free) = true then (match env.cells.lookup n with | some c => clOf env r ((n, c) :: acc) | none => clOf env r acc) else clOf env r acc
theorem forIn_clOf {env : Env} {f : Str × NameKind → List (Str × Addr) → Sem (ForInStep (List (Str × Addr)))}
    (h1 : ∀ n k acc, (k == NameKind.free) = false → f (n, k) acc = pure (.yield acc)) (h2 : ∀ n c acc, env.cells.lookup n = some c → f (n, .free) acc = pure (.yield ((n, c) :: acc))) :
    ∀ (names : List (Str × NameKind)) (acc : List (Str × Addr)), (∀ y ∈ names, y.2 = .free → ∃ c, env.cells.lookup y.1 = some c) → forIn names acc f = pure (clOf env names acc)
  | [], acc, _ => rfl
  | (n, k) :: r, acc, h => by
    have hr : ∀ y ∈ r, y.2 = .free → ∃ c, env.cells.lookup y.1 = some c := fun y hy => h y (List.mem_cons_of_mem _ hy)
    rw [List.forIn_cons]
    cases hk : (k == NameKind.free) with
    | false =>
      rw [h1 n k acc hk, pure_bind]
      show forIn r acc f = _
      rw [forIn_clOf h1 h2 r acc hr]
      simp only [clOf, hk, Bool.false_eq_true, if_false]
    | true =>
      have e : k = .free := by simpa using hk
      subst e
      obtain ⟨c, hc⟩ := h _ List.mem_cons_self rfl
      rw [h2 n c acc hc, pure_bind]
      show forIn r ((n, c) :: acc) f = _
      rw [forIn_clOf h1 h2 r _ hr]
      have hc' : env.cells.lookup n = some c := hc
      simp only [clOf, hk, if_true, hc']
theorem closure_of {env : Env} {scope : Scope} (h : ∀ y ∈ scope.names, y.2 = .free → ∃ c, env.cells.lookup y.1 = some c) : closureFor scope env = pure (clOf env scope.names []) := by
  simp only [closureFor]
  rw [forIn_clOf (env := env) (fun n k acc hk => by simp only [hk, Bool.false_eq_true, if_false]) (fun n c acc hc => by simp only [beq_self_eq_true, if_true, cellOf, hc, pure_bind]) scope.names [] h, pure_bind]
theorem clOf_sub {env : Env} : ∀ (names : List (Str × NameKind)) (acc : List (Str × Addr)), (∀ x c, acc.lookup x = some c → env.cells.lookup x = some c) → ∀ x c, (clOf env names acc).lookup x = some c → env.cells.lookup x = some c
  | [], _, h, x, c, e => h x c e
  | (n, k) :: r, acc, h, x, c, e => by
    unfold clOf at e
    split at e
    · split at e
      · rename_i c' hc'
        refine clOf_sub r _ (fun y d q => ?_) x c e
        rw [List.lookup_cons] at q
        split at q
        · rename_i hy
          cases q
          rw [eq_of_beq hy]
          exact hc'
        · exact h y d q
      · exact clOf_sub r acc h x c e
    · exact clOf_sub r acc h x c e
theorem clOf_mono {env : Env} : ∀ (names : List (Str × NameKind)) (acc : List (Str × Addr)) (x : Str), (acc.lookup x).isSome = true → ((clOf env names acc).lookup x).isSome = true
  | [], _, _, h => h
  | (n, k) :: r, acc, x, h => by
    unfold clOf
    split
    · split
      · refine clOf_mono r _ x ?_
        rw [List.lookup_cons]
        split
        · rfl
        · exact h
      · exact clOf_mono r acc x h
    · exact clOf_mono r acc x h
theorem clOf_has {env : Env} : ∀ (names : List (Str × NameKind)) (acc : List (Str × Addr)) (x : Str) (c : Addr), (x, NameKind.free) ∈ names → env.cells.lookup x = some c → ((clOf env names acc).lookup x).isSome = true
  | [], _, _, _, h, _ => by cases h
  | (n, k) :: r, acc, x, c, h, hc => by
    rcases List.mem_cons.mp h with z | h
    · cases z
      simp only [clOf, beq_self_eq_true, if_true, hc]
      exact clOf_mono r _ _ (by simp [List.lookup_cons])
    · unfold clOf
      split
      · split
        · exact clOf_has r _ x c h hc
        · exact clOf_has r acc x c h hc
      · exact clOf_has r acc x c h hc
theorem clOf_get {env : Env} {names : List (Str × NameKind)} {x : Str} {c : Addr} (h : (x, NameKind.free) ∈ names) (hc : env.cells.lookup x = some c) : (clOf env names []).lookup x = some c := by
  have q := clOf_has names [] x c h hc
  cases e : (clOf env names []).lookup x with
  | none => rw [e] at q; cases q
  | some d =>
    have z := clOf_sub names [] (fun y d q => by cases q) x d e
    rw [hc] at z
    exact z.symm
theorem relabel_mem {env : Env} {scope : Scope} {x : Str} {k : NameKind} (h : (relabel scope env).names.lookup x = some k) : ∃ k0, (x, k0) ∈ scope.names ∧ (k = k0 ∨ (k0 = .free ∧ k = .cell)) := by
  obtain ⟨⟨n, k0⟩, hm, e⟩ := List.mem_map.mp (PySem.mem_of_lookup h)
  simp only at e
  split at e
  · rename_i hc
    cases e
    have hk : (k0 == NameKind.free) = true := by
      rw [Bool.and_eq_true, Bool.and_eq_true] at hc
      exact hc.1.1
    exact ⟨k0, hm, .inr ⟨by simpa using hk, rfl⟩⟩
  · cases e
    exact ⟨_, hm, .inl rfl⟩
theorem relabel_free {env : Env} : ∀ {names : List (Str × NameKind)} {x : Str}, names.lookup x = some .free →
    (names.map fun (n, k) => if (k == NameKind.free && env.scope.kind == .function && env.kindOf n == some .cell) then (n, NameKind.cell) else (n, k)).lookup x = some .cell ∨
    (names.map fun (n, k) => if (k == NameKind.free && env.scope.kind == .function && env.kindOf n == some .cell) then (n, NameKind.cell) else (n, k)).lookup x = some .free
  | [], _, h => by cases h
  | (n, k) :: r, x, h => by
    rw [List.lookup_cons] at h
    rw [List.map_cons]
    dsimp only
    by_cases hc : (k == NameKind.free && env.scope.kind == .function && env.kindOf n == some .cell) = true
    · rw [if_pos hc, List.lookup_cons]
      cases hx : x == n with
      | true => exact .inl rfl
      | false => rw [hx] at h; exact relabel_free h
    · rw [if_neg hc, List.lookup_cons]
      cases hx : x == n with
      | true => rw [hx] at h; exact .inr h
      | false => rw [hx] at h; exact relabel_free h
noncomputable def compN (own : List Str) (fv : List (Str × Nat)) : List Str := own ++ fv.map (·.1)
noncomputable def compSt (own : List Str) (fv : List (Str × Nat)) (σ : St) : St := own.map (fun _ => none) ++ fv.map fun p => (σ[p.2]?).join
noncomputable def FvOk (X : Cx) (scope : Scope) : List (Str × Nat) → Prop
  | [] => True
  | p :: r => (X.N[p.2]? = some p.1 ∧ scope.names.lookup p.1 = some .free ∧ (X.env.scope.names.lookup p.1 = some .cell ∨ X.env.scope.names.lookup p.1 = some .free)) ∧ FvOk X scope r
theorem FvOk.mem {X : Cx} {scope : Scope} : ∀ {fv : List (Str × Nat)}, FvOk X scope fv → ∀ p ∈ fv, X.N[p.2]? = some p.1 ∧ scope.names.lookup p.1 = some .free ∧ (X.env.scope.names.lookup p.1 = some .cell ∨ X.env.scope.names.lookup p.1 = some .free)
  | [], _, p, hp => by cases hp
  | q :: r, h, p, hp => by
    rcases List.mem_cons.mp hp with z | hp
    · rw [z]; exact h.1
    · exact h.2.mem p hp
noncomputable def csOf (X : Cx) (scope : Scope) (C : Addr) : List (Str × Addr) := cellsFrom (C + 1) scope.names (clOf X.env scope.names [])
theorem cf_sub : ∀ (names : List (Str × NameKind)) (n : Nat) (acc : List (Str × Addr)) (x : Str) (c : Addr), (cellsFrom n names acc).lookup x = some c → (n ≤ c ∧ (x, NameKind.cell) ∈ names) ∨ acc.lookup x = some c
  | [], _, _, _, _, h => .inr h
  | (y, k) :: r, n, acc, x, c, h => by
    unfold cellsFrom at h
    by_cases hk : (k == NameKind.cell) = true
    · rw [if_pos hk] at h
      have e : k = .cell := by simpa using hk
      rcases cf_sub r _ _ x c h with ⟨h1, h2⟩ | h1
      · exact .inl ⟨Nat.le_of_succ_le h1, List.mem_cons_of_mem _ h2⟩
      · rw [List.lookup_cons] at h1
        split at h1
        · rename_i hy
          cases h1
          exact .inl ⟨Nat.le_refl _, by rw [eq_of_beq hy, e]; exact List.mem_cons_self⟩
        · exact .inr h1
    · rw [if_neg hk] at h
      rcases cf_sub r _ _ x c h with ⟨h1, h2⟩ | h1
      · exact .inl ⟨h1, List.mem_cons_of_mem _ h2⟩
      · exact .inr h1
theorem cf_no : ∀ (names : List (Str × NameKind)) (n : Nat) (acc : List (Str × Addr)) (x : Str), (x, NameKind.cell) ∉ names → (cellsFrom n names acc).lookup x = acc.lookup x
  | [], _, _, _, _ => rfl
  | (y, k) :: r, n, acc, x, h => by
    have hr : (x, NameKind.cell) ∉ r := fun z => h (List.mem_cons_of_mem _ z)
    unfold cellsFrom
    by_cases hk : (k == NameKind.cell) = true
    · have e : k = .cell := by simpa using hk
      rw [if_pos hk, cf_no r _ _ x hr, List.lookup_cons]
      have hy : (x == y) = false := by
        refine beq_eq_false_iff_ne.mpr fun z => h ?_
        rw [z, e]; exact List.mem_cons_self
      rw [hy]
    · rw [if_neg hk]; exact cf_no r _ _ x hr
theorem cf_cells : ∀ (names : List (Str × NameKind)) (h : Heap) (acc : List (Str × Addr)) (x : Str) (c : Addr), (cellsFrom h.objs.size names acc).lookup x = some c → (h.objs.size ≤ c ∧ (pushCells h names).IsCell c none) ∨ acc.lookup x = some c
  | [], _, _, _, _, e => .inr e
  | (y, k) :: r, h, acc, x, c, e => by
    unfold cellsFrom at e
    unfold pushCells
    by_cases hk : (k == NameKind.cell) = true
    · rw [if_pos hk] at e ⊢
      rw [← Heap.size_push h { cls := .type "cell", data := .cell none }] at e
      rcases cf_cells r _ _ x c e with ⟨h1, h2⟩ | h1
      · rw [Heap.size_push] at h1; exact .inl ⟨Nat.le_of_succ_le h1, h2⟩
      · rw [List.lookup_cons] at h1
        split at h1
        · cases h1
          exact .inl ⟨Nat.le_refl _, _, pushCells_keeps _ _ _ _ (Heap.get?_push_size _ rfl), rfl⟩
        · exact .inr h1
    · rw [if_neg hk] at e ⊢; exact cf_cells r _ _ x c e
theorem cf_inj : ∀ (names : List (Str × NameKind)) (n : Nat) (acc : List (Str × Addr)), (∀ x c, acc.lookup x = some c → c < n) → (∀ x y c, acc.lookup x = some c → acc.lookup y = some c → x = y) → ∀ x y c, (cellsFrom n names acc).lookup x = some c → (cellsFrom n names acc).lookup y = some c → x = y
  | [], _, _, _, h2, x, y, c, e1, e2 => h2 x y c e1 e2
  | (z, k) :: r, n, acc, h1, h2, x, y, c, e1, e2 => by
    unfold cellsFrom at e1 e2
    by_cases hk : (k == NameKind.cell) = true
    · rw [if_pos hk] at e1 e2
      refine cf_inj r (n + 1) ((z, n) :: acc) (fun a d q => ?_) (fun a b d q1 q2 => ?_) x y c e1 e2
      · rw [List.lookup_cons] at q
        split at q
        · cases q; exact Nat.lt_succ_self _
        · exact Nat.lt_succ_of_lt (h1 a d q)
      · rw [List.lookup_cons] at q1 q2
        split at q1
        · rename_i ha
          split at q2
          · rename_i hb; rw [eq_of_beq ha, eq_of_beq hb]
          · cases q1; exact absurd (h1 b _ q2) (Nat.lt_irrefl _)
        · split at q2
          · cases q2; exact absurd (h1 a _ q1) (Nat.lt_irrefl _)
          · exact h2 a b d q1 q2
    · rw [if_neg hk] at e1 e2; exact cf_inj r n acc h1 h2 x y c e1 e2
theorem lk_mem : ∀ {names : List (Str × NameKind)} {x : Str} {k k' : NameKind}, (names.map (·.1)).Nodup → names.lookup x = some k → (x, k') ∈ names → k = k'
  | [], _, _, _, _, h, _ => by cases h
  | (y, j) :: r, x, k, k', hn, h, hm => by
    rw [List.map_cons, List.nodup_cons] at hn
    rw [List.lookup_cons] at h
    rcases List.mem_cons.mp hm with e | hm'
    · cases e
      rw [beq_self_eq_true] at h
      exact (Option.some.inj h).symm
    · cases hx : x == y with
      | true =>
        rw [eq_of_beq hx] at hm'
        exact absurd (List.mem_map.mpr ⟨_, hm', rfl⟩) hn.1
      | false => rw [hx] at h; exact lk_mem hn.2 h hm'
noncomputable def cxComp (X : Cx) (s : Shared) (H : Hp) (scope : Scope) (C : Addr) (N : List Str) (fp : List Addr) : Cx :=
  { X with N := N, s₀ := s, H₀ := H, env := compEnvC scope (csOf X scope C) C X.env, outer := X.stack, stack := X.stack, ex := fp, fn := fun x => ((clOf X.env scope.names []).lookup x).isNone, pn := [], xe := fun _ _ => False }
section
variable {X : Cx} {pins : List (Addr × Obj)} {σ : St} {H : Hp} {s : Shared}
theorem cl_lt {scope : Scope} (I : Inv X pins σ H s) {x : Str} {c : Addr} (e : (clOf X.env scope.names []).lookup x = some c) : X.env.cells.lookup x = some c ∧ c < s.heap.objs.size := by
  have h := clOf_sub _ _ (fun _ _ q => by cases q) x c e
  obtain ⟨v, o, z, _⟩ := I.cell x c h
  exact ⟨h, Heap.lt_size z⟩
theorem ok_comp {scope : Scope} {C : Addr} {N : List Str} {fp : List Addr} (I : Inv X pins σ H s) (hkind : scope.kind = .function) (hnd : (scope.names.map (·.1)).Nodup)
    (hfr : ∀ y ∈ scope.names, y.2 = .free → ∃ c, X.env.cells.lookup y.1 = some c) (hC : s.heap.objs.size ≤ C) (hf : ∀ b ∈ fp, FpOk X pins H b) (hfl : ∀ b ∈ fp, b < s.heap.objs.size) : (cxComp X s H scope C N fp).Ok where
  mod := I.ok.mod
  kind := hkind
  glob := I.ok.glob
  blt := I.ok.blt
  above := hC
  inj := cf_inj _ _ _ (fun x c e => Nat.lt_succ_of_lt (Nat.lt_of_lt_of_le (cl_lt I e).2 hC)) fun x y c h1 h2 => I.ok.inj x y c (cl_lt I h1).1 (cl_lt I h2).1
  has := fun x hx => by
    have hx' : ∃ k, (relabel scope X.env).names.lookup x = some k ∧ (k = .cell ∨ k = .free) := by
      rcases hx with z | z
      · exact ⟨_, z, .inl rfl⟩
      · exact ⟨_, z, .inr rfl⟩
    obtain ⟨k, hk, hk2⟩ := hx'
    obtain ⟨k0, hm, hk0⟩ := relabel_mem hk
    have e : k0 = .free ∨ k0 = .cell := by
      rcases hk0 with z | ⟨z, _⟩
      · subst z
        rcases hk2 with z | z
        · exact .inr z
        · exact .inl z
      · exact .inl z
    have q : ((csOf X scope C).lookup x).isSome = true := by
      rcases e with e | e
      · subst e
        obtain ⟨c, hc⟩ := hfr _ hm rfl
        exact PySem.W.cellsFrom_some _ _ _ (.inr (by rw [clOf_get hm hc]; rfl))
      · subst e
        refine PySem.W.cellsFrom_some _ _ _ (.inl ?_)
        cases z : scope.names.lookup x with
        | none => exact absurd hm (fun hm => by
            have : ∀ {l : List (Str × NameKind)}, l.lookup x = none → (x, NameKind.cell) ∉ l := fun {l} => by
              induction l with
              | nil => exact fun _ => by simp
              | cons p r ih =>
                intro h q
                rw [List.lookup_cons] at h
                rcases List.mem_cons.mp q with q | q
                · rw [← q, beq_self_eq_true] at h; cases h
                · split at h
                  · cases h
                  · exact ih h q
            exact this z hm)
        | some k' => rw [lk_mem hnd z hm]
    exact Option.isSome_iff_exists.mp q
  cab := fun x c h1 h2 => by
    have h1' : ((clOf X.env scope.names []).lookup x).isNone = true := h1
    have h2' : (csOf X scope C).lookup x = some c := h2
    rcases cf_sub _ _ _ x c h2' with ⟨z, _⟩ | z
    · exact Nat.le_trans hC (Nat.le_of_succ_le z)
    · rw [z] at h1'; cases h1'
  hd := I.ok.hd
  frames := I.ok.frames
  stk := .inl rfl
  exf := fun b hb => ⟨Nat.ne_of_lt (Nat.lt_of_lt_of_le (hfl b hb) hC), fun x c e => by
    rcases cf_sub _ _ _ x c e with ⟨z, _⟩ | z
    · exact Nat.ne_of_gt (Nat.lt_of_lt_of_le (Nat.lt_of_lt_of_le (hfl b hb) hC) (Nat.le_of_succ_le z))
    · exact (hf b hb).2.2.2.2.1 x c (cl_lt I z).1⟩
  bs := I.bs
  bsz := Nat.le_trans I.ok.bsz I.sz
  noex := fun b o e hb => by
    rcases (hf b hb).2.2.2.1 with z | z
    · exact I.ok.noex b o e z
    · exact absurd (Nat.lt_of_lt_of_le (Heap.lt_size e) (Nat.le_trans I.ok.bsz z)) (Nat.lt_irrefl _)
  exfs := fun b hb hs => by
    rcases List.mem_cons.mp (I.stkSub b hs) with z | z
    · exact (hf b hb).2.1 z
    · exact (hf b hb).2.2.1 z
  funs := I.stack
  frf := I.stkFree
theorem inv_comp {scope : Scope} {C D : Addr} {own : List Str} {fv : List (Str × Nat)} {fp : List Addr} {h1 : Heap} {t1 : Nat} {m : Str → Option Value} (I : Inv X pins σ H s) (hkind : scope.kind = .function) (hnd : (scope.names.map (·.1)).Nodup)
    (hfr : ∀ y ∈ scope.names, y.2 = .free → ∃ c, X.env.cells.lookup y.1 = some c) (hfv : FvOk X scope fv) (hD : s.heap.objs.size ≤ D) (hDC : D < C) (hC : s.heap.objs.size ≤ C) (hf : ∀ b ∈ fp, FpOk X pins H b) (hfl : ∀ b ∈ fp, b < s.heap.objs.size)
    (hns : h1.Ns C m) (hoc : ∀ x c, (csOf X scope C).lookup x = some c → C < c → ∃ v, h1.IsCell c v) (hk : ∀ b o, s.heap.get? b = some o → h1.get? b = some o) (hd : ∃ n, h1.get? D = some { cls := .type "list", data := .seq #[] n }) :
    Inv (cxComp X s H scope C (compN own fv) fp) [] (compSt own fv σ) (upd H D (.lst [])) { s with heap := h1, toks := t1 } := by
  have hn : H D = none := I.hok.fresh hD
  obtain ⟨n, hd⟩ := hd
  have hCD : C ≠ D := Nat.ne_of_gt hDC
  have hcs : ∀ x c, (csOf X scope C).lookup x = some c → C < c ∨ (X.env.cells.lookup x = some c ∧ c < s.heap.objs.size) := fun x c e => by
    rcases cf_sub _ _ _ x c e with ⟨z, _⟩ | z
    · exact .inl z
    · exact .inr (cl_lt I z)
  refine ⟨ok_comp I hkind hnd hfr hC hf hfl, rfl, I.bare, Un.laid hk hD hn, ⟨m, hns, fun i x v e1 e2 e3 => ?_⟩, fun x c e => ?_, ?_, fun x c e => ?_, fun p hp => absurd (show p ∈ ([] : List (Addr × Obj)) from hp) (by simp), ?_, ?_⟩
  · -- a name from around
    have e1' : (own ++ fv.map (·.1))[i]? = some x := e1
    have e2' : (own.map (fun _ => (none : Option V)) ++ fv.map fun p => (σ[p.2]?).join)[i]? = some (some v) := e2
    have hi : own.length ≤ i := by
      by_cases hi : i < own.length
      · rw [List.getElem?_append_left (by simpa using hi), List.getElem?_map] at e2'
        cases q : own[i]? with
        | none => rw [q] at e2'; cases e2'
        | some _ => rw [q] at e2'; cases e2'
      · omega
    rw [List.getElem?_append_right hi, List.getElem?_map] at e1'
    rw [List.getElem?_append_right (by simpa using hi), List.getElem?_map, List.length_map] at e2'
    cases q : fv[i - own.length]? with
    | none => rw [q] at e1'; cases e1'
    | some p =>
      rw [q] at e1' e2'
      have ex : p.1 = x := Option.some.inj e1'
      subst ex
      have ev : (σ[p.2]?).join = some v := Option.some.inj e2'
      obtain ⟨g1, g2, g3⟩ := hfv.mem p (List.mem_of_getElem? q)
      have ev2 : σ[p.2]? = some (some v) := by
        cases z : σ[p.2]? with
        | none => rw [z] at ev; cases ev
        | some y => rw [z] at ev; exact congrArg some ev
      obtain ⟨m0, _, hl⟩ := I.loc
      obtain ⟨u, r, l⟩ := hl p.2 p.1 v g1 ev2 (.inr g3)
      refine ⟨u, r, ?_⟩
      have l2 : ∃ c, X.env.cells.lookup p.1 = some c ∧ s.heap.IsCell c (some u) := by
        rcases l with ⟨k, _⟩ | ⟨_, c, e, z⟩
        · have k' : X.env.scope.names.lookup p.1 = some .local := k
          rcases g3 with z | z
          · rw [z] at k'; cases k'
          · rw [z] at k'; cases k'
        · exact ⟨c, e, z⟩
      obtain ⟨c, e, o, ho, hdc⟩ := l2
      refine .inr ⟨?_, c, ?_, o, hk c o ho, hdc⟩
      · exact relabel_free g2
      · show (csOf X scope C).lookup p.1 = some c
        unfold csOf
        rw [cf_no _ _ _ _ fun z => by cases lk_mem hnd g2 z]
        exact clOf_get (PySem.mem_of_lookup g2) e
  · rcases hcs x c e with z | ⟨z, _⟩
    · exact hoc x c e z
    · obtain ⟨v, o, ho, hdc⟩ := I.cell x c z
      exact ⟨v, o, hk c o ho, hdc⟩
  · show upd H D (.lst []) C = none
    rw [upd_ne hCD]
    exact I.hok.fresh hC
  · show upd H D (.lst []) c = none
    rcases hcs x c e with z | ⟨z1, z2⟩
    · rw [upd_ne (Nat.ne_of_gt (Nat.lt_trans hDC z))]
      exact I.hok.fresh (Nat.le_trans hC (Nat.le_of_lt z))
    · rw [upd_ne (Nat.ne_of_lt (Nat.lt_of_lt_of_le z2 hD))]
      exact I.freeC x c z1
  · exact I.hok.laid hk hD ⟨by show 0 ≤ sizeLine; exact Nat.zero_le _, [], n, .nil, hd⟩
  · show (own.map (fun _ => (none : Option V)) ++ fv.map fun p => (σ[p.2]?).join).length = (own ++ fv.map (·.1)).length
    simp
end
noncomputable def PIfs (X : Cx) (ifs : List Expr) (t : TT) : Prop :=
  ∀ (pins : List (Addr × Obj)) (s : Shared) (σ : St) (H : Hp) (Q : Bool → Hp → Prop), Inv X pins σ H s → t σ H Q →
    wpAny (model X.prog X.w) X.A (forIn ifs true fun c r => if r = true then do let ok ← isTrue c X.env (eval c X.env); pure (ForInStep.yield ok) else pure (ForInStep.yield r)) (TP X pins σ Q) X.xe s
noncomputable def tTrue : TT := fun _ H Q => Q true H
theorem pifs_nil {X : Cx} : PIfs X [] tTrue := fun _ _ _ H _ I h => wpAny_tests_nil ⟨H, I, h⟩
theorem pifs_one {X : Cx} {c : Expr} {tc : TT} (h : PT X c tc) : PIfs X [c] tc := fun pins s σ H Q I hw => wpAny_tests_one (h pins s σ H Q I hw)
noncomputable def CompR (J : It) (D : Addr) (σc : St) (g : TG) (tc : TT) (te : TE) (H1 : Hp) (Fin : Hp → Prop) : Prop :=
  ∃ W : Nat → Nat → St → Hp → Prop, (∃ m, W 0 m σc (upd H1 D (.lst []))) ∧ ∀ i m σ H, W i m σ H →
    (J.stop i H ∧ Fin H) ∨ (J.go i H ∧ ∃ N : St → Hp → Prop, (∀ σ' H', N σ' H' → ∃ m', m' < m ∧ W (i + 1) m' σ' H') ∧
      ∀ x H', J.yld i H x H' → g x σ H' fun σ2 H2 => tc σ2 H2 fun b H3 => if b = true then te σ2 H3 fun y H4 => ∃ ys, H4 D = some (.lst ys) ∧ ys.length < sizeLine ∧ N σ2 (upd H4 D (.lst (ys ++ [y]))) else N σ2 H3)
section
variable {prog : Program} {w : World} {A : Around} {s : Shared}
theorem comp_loop {elt tg iter : Expr} {ifs : List Expr} {scope : Scope} {pos : Pos} {it acc : Value} {env : Env} {R : Result → Shared → Prop} (I : Nat → Shared → Prop)
    (turn : ∀ n s, I n s → wpAny (model prog w) A (pyNext it) (fun r s1 => match r with
      | none => R (.ok .next) s1
      | some v => wpAny (model prog w) A (letOwnedTupleGo tg it v) (fun _ s2 => wpAny (model prog w) A (assign tg env v) (fun _ s3 =>
          wpAny (model prog w) A (forIn ifs true fun c r => if r = true then do let ok ← isTrue c env (eval c env); pure (ForInStep.yield ok) else pure (ForInStep.yield r)) (fun ok s4 =>
            if ok = true then wpAny (model prog w) A (eval elt env) (fun x s5 =>
              wpAny (model prog w) A (call (.builtin "list.append") [acc, x]) (fun _ s6 => ∃ m, m < n ∧ I m s6) (fun _ _ => False) s5) (fun _ _ => False) s4
            else ∃ m, m < n ∧ I m s4) (fun _ _ => False) s3) (fun _ _ => False) s2) (fun _ _ => False) s1) (fun _ _ => False) s)
    (n : Nat) (h : I n s) : codeAny (model prog w) A (.compLoop (.ListComp elt [⟨tg, iter, ifs, 0⟩] scope pos) 0 it acc env) R s := by
  refine codeAny_loop rfl I (fun n s hI => ?_) n h
  show wpAny _ A (Sem.onRaise (compTurn (.ListComp elt [⟨tg, iter, ifs, 0⟩] scope pos) 0 it acc env) (fun x => do noteFrame x env; theTreesLotGoes x)) _ _ s
  refine wpAny_noted ?_
  rw [compTurn_list]
  have no : ∀ {α : Type} {t : Sem α} {Q Q' : α → Shared → Prop} {E : Value → Shared → Prop} {s : Shared}, wpAny (model prog w) A t Q (fun _ _ => False) s → (∀ a s', Q a s' → Q' a s') → wpAny (model prog w) A t Q' E s :=
    fun h1 h2 => wpAny_mono h1 h2 fun _ _ z => False.elim z
  refine wpAny_bind (wpAny_standAt (wpAny_bind (no (turn n s hI) fun r s1 h1 => ?_)))
  cases r with
  | none => exact wpAny_pure h1
  | some v =>
    refine wpAny_bind (no h1 fun _ s2 h2 => wpAny_bind (no h2 fun _ s3 h3 => wpAny_bind (no h3 fun ok s4 h4 => ?_)))
    cases ok with
    | false => exact wpAny_pure ⟨rfl, h4⟩
    | true => exact wpAny_bind (wpAny_bind (no h4 fun x s5 h5 => wpAny_bind (no h5 fun _ s6 h6 => wpAny_pure (wpAny_pure ⟨rfl, h6⟩))))
end
section
variable {X : Cx} {pins : List (Addr × Obj)} {σ : St} {H : Hp} {s : Shared}
theorem newEnv_cells {M : Model} {A : Around} {E : Value → Shared → Prop} {s : Shared} {scope : Scope} {globals : Addr} {closure : List (Str × Addr)} {qual : Str} {env : Env} {Q : Env → Shared → Prop}
    (h : Q (newEnv scope s.heap.objs.size globals (cellsFrom (s.heap.objs.size + 1) scope.names closure) qual none .none (some env) builtinsNs) { s with heap := pushCells (s.heap.push { cls := .type "dict", data := .dict #[] }) scope.names }) :
    wpAny M A (newFunctionEnv scope globals closure [] qual none .none (some env)) Q E s := by
  simp only [newFunctionEnv, Option.isSome_some, if_true]
  refine wpAny_bind (wpAny_alloc ?_)
  refine wpAny_bind (wpAny_layCells _ (fun name kind cells => by cases hkc : kind == NameKind.cell <;> simp [hkc]) _ _ _ _ ?_)
  rw [show ({ s with heap := s.heap.push { cls := .type "dict", data := .dict #[] } } : Shared).heap.objs.size = s.heap.objs.size + 1 from Heap.size_push ..]
  rw [List.forIn_nil]
  exact wpAny_bind (wpAny_pure (wpAny_pure h))
theorem comp_block {elt tg iter : Expr} {ifs : List Expr} {scope : Scope} {pos : Pos} {own : List Str} {fv : List (Str × Nat)} {g : TG} {tc : TT} {te : TE} {E : Value → Shared → Prop} {it : Addr} {fp : List Addr} {tn : Nat → Heap → Prop} {J : It} {Fin : Addr → Hp → Prop}
    {RR : Value → Addr → Result → Shared → Prop} (I : Inv X pins σ H s) (hc : X.calm = true) (hkind : scope.kind = .function) (hnd : (scope.names.map (·.1)).Nodup) (hfr : ∀ y ∈ scope.names, y.2 = .free → ∃ c, X.env.cells.lookup y.1 = some c) (hfv : FvOk X scope fv)
    (T : Turn X.prog X.w X.K tg J fp it tn) (st : tn 0 s.heap) (hf : ∀ b ∈ fp, FpOk X pins H b)
    (hg : ∀ C, PG (cxComp X s H scope C (compN own fv) fp) tg g) (ht : ∀ C, PIfs (cxComp X s H scope C (compN own fv) fp) ifs tc) (he : ∀ C, PE (cxComp X s H scope C (compN own fv) fp) elt te)
    (hR : ∀ D, H D = none → CompR J D (compSt own fv σ) g tc te H (Fin D))
    (hRR : ∀ D C H' s', Inv X pins σ H' s' → Fin D H' → (∃ m, s'.heap.Ns C m) → s.heap.objs.size ≤ C → H' C = none → RR (.ref D) C (.ok .next) s') :
    wpAny (model X.prog X.w) X.A (newList []) (fun acc s3 => wpAny (model X.prog X.w) X.A (newFunctionEnv scope X.env.globals (clOf X.env scope.names []) [] X.env.qual none .none (some X.env)) (fun cenv s4 =>
      codeAny (model X.prog X.w) X.A (.compStart (.ListComp elt [⟨tg, iter, ifs, 0⟩] scope pos) 0 (.ref it) acc { cenv with scope := relabel scope X.env }) (RR acc cenv.locals) s4) E s3) E s := by
  refine wpAny_newObj_type ?_
  generalize hH2 : s.heap.push { cls := .type "list", dict := none, data := .seq ([] : List Value).toArray } = h2
  have hz : h2.objs.size = s.heap.objs.size + 1 := by rw [← hH2, Heap.size_push]
  refine newEnv_cells (s := { s with heap := h2 }) ?_
  have hDC : s.heap.objs.size < h2.objs.size := by rw [hz]; exact Nat.lt_succ_self _
  have hC : s.heap.objs.size ≤ h2.objs.size := Nat.le_of_lt hDC
  generalize hH1 : pushCells (h2.push { cls := .type "dict", data := .dict #[] }) scope.names = h1
  have kp2 : ∀ b o, h2.get? b = some o → h1.get? b = some o := fun b o e => by rw [← hH1]; exact pushCells_keeps _ _ b o (Heap.get?_push_of_some _ e)
  have kp : ∀ b o, s.heap.get? b = some o → h1.get? b = some o := fun b o e => kp2 b o (by rw [← hH2]; exact Heap.get?_push_of_some _ e)
  have hns : h1.Ns h2.objs.size (fun _ => none) := by rw [← hH1]; exact (Heap.Ns.new h2 (.type "dict")).keeps (pushCells_keeps _ _)
  have hoc : ∀ x c, (csOf X scope h2.objs.size).lookup x = some c → h2.objs.size < c → ∃ v, h1.IsCell c v := fun x c e hlt => by
    have e' : (cellsFrom (h2.push { cls := .type "dict", data := .dict #[] }).objs.size scope.names (clOf X.env scope.names [])).lookup x = some c := by rw [Heap.size_push]; exact e
    rcases cf_cells _ _ _ x c e' with ⟨_, z⟩ | z
    · exact ⟨none, by rw [← hH1]; exact z⟩
    · exact absurd (Nat.lt_trans (cl_lt I z).2 (Nat.lt_trans hDC hlt)) (Nat.lt_irrefl _)
  have hd : ∃ n, h1.get? s.heap.objs.size = some { cls := .type "list", data := .seq #[] n } := ⟨0, kp2 _ _ (by rw [← hH2]; exact Heap.get?_push_size _ rfl)⟩
  have hfl : ∀ b ∈ fp, b < s.heap.objs.size := fun b hb => by
    obtain ⟨o, e, _⟩ := T.obj 0 _ st b hb
    exact Heap.lt_size e
  have hn : H s.heap.objs.size = none := I.hok.fresh (Nat.le_refl _)
  obtain ⟨W, ⟨m0, w0⟩, turn⟩ := hR s.heap.objs.size hn
  have fpX : ∀ {pl : List (Addr × Obj)} {H' : Hp}, (∀ b ∈ fp, H' b = none) → (∀ p ∈ pl, p.1 ∉ fp) → ∀ b ∈ fp, FpOk (cxComp X s H scope h2.objs.size (compN own fv) fp) pl H' b := fun {pl H'} hn' hpl b hb => by
    have ok := ok_comp (C := h2.objs.size) (N := compN own fv) I hkind hnd hfr hC hf hfl
    exact ⟨hn' b hb, (ok.exf b hb).1, ok.exfs b hb, .inl hb, (ok.exf b hb).2, fun p hp => by
      have hp' : p ∈ ([] : List (Addr × Obj)) ++ pl := hp
      intro z
      exact hpl p (by simpa using hp') (by rw [z]; exact hb)⟩
  have loop : ∀ s4 : Shared, s4 = { s with heap := h1 } →
      codeAny (model X.prog X.w) X.A (.compLoop (.ListComp elt [⟨tg, iter, ifs, 0⟩] scope pos) 0 (.ref it) (.ref s.heap.objs.size) (compEnvC scope (csOf X scope h2.objs.size) h2.objs.size X.env)) (RR (.ref s.heap.objs.size) h2.objs.size) s4 := by
    rintro s4 rfl
    have I0 : Inv (cxComp X s H scope h2.objs.size (compN own fv) fp) [] (compSt own fv σ) (upd H s.heap.objs.size (.lst [])) { s with heap := h1 } :=
      inv_comp I hkind hnd hfr hfv (Nat.le_refl _) hDC hC hf hfl hns hoc kp hd
    have st0 : tn 0 h1 := T.keep 0 _ _ st fun b _ o e => kp b o e
    have fr0 : ∀ b ∈ fp, (upd H s.heap.objs.size (.lst [])) b = none := fun b hb => by
      rw [upd_ne (Nat.ne_of_lt (hfl b hb))]
      exact (hf b hb).1
    refine comp_loop (fun n s' => ∃ i σ' H', Inv (cxComp X s H scope h2.objs.size (compN own fv) fp) [] σ' H' s' ∧ tn i s'.heap ∧ (∀ b ∈ fp, H' b = none) ∧ W i n σ' H') ?_ m0 ⟨0, _, _, I0, st0, fr0, w0⟩
    rintro n s5 ⟨i, σ5, H5, I5, st5, fr5, w5⟩
    rcases turn i n σ5 H5 w5 with ⟨stop, fin⟩ | ⟨go, N, hN, step⟩
    · refine thn (T.done (cxComp X s H scope h2.objs.size (compN own fv) fp) rfl rfl rfl hc i [] s5 σ5 H5 (fun _ _ => False) I5 (fpX fr5 (by simp)) st5 stop) fun r s6 ⟨hr, I6⟩ => ?_
      subst hr
      obtain ⟨mm, hm, _⟩ := I6.loc
      refine hRR _ _ H5 s6 ?_ fin ⟨mm, hm⟩ hC I6.free
      exact I.call' (ch := fp) I6.os I6.base I6.hok I6.bare fun b hb => ⟨(hf b hb).2.2.2.1, (hf b hb).2.1, (hf b hb).2.2.2.2.1, (hf b hb).2.2.2.2.2⟩
    · refine thn (T.item (cxComp X s H scope h2.objs.size (compN own fv) fp) rfl rfl rfl hc i [] s5 σ5 H5 (fun _ _ => False) I5 (fpX fr5 (by simp)) st5 go) fun r s6 ⟨u, hr, h6⟩ => ?_
      subst hr
      refine thn h6 fun _ s7 ⟨x, H7, I7, r7, y7, st7, fr7⟩ => ?_
      have I7' := I7.pinned (fp := fp) (fpX fr7 (by simp)) (T.obj _ _ st7)
      have back : ∀ {σ8 : St} {H8 : Hp} {s8 : Shared}, Inv (cxComp X s H scope h2.objs.size (compN own fv) fp) ([] ++ pinsAt fp s7.heap) σ8 H8 s8 → N σ8 H8 → ∃ m, m < n ∧ ∃ i σ' H', Inv (cxComp X s H scope h2.objs.size (compN own fv) fp) [] σ' H' s8 ∧ tn i s8.heap ∧ (∀ b ∈ fp, H' b = none) ∧ W i m σ' H' := fun {σ8 H8 s8} I8 n8 => by
        obtain ⟨m', hm, w8⟩ := hN σ8 H8 n8
        refine ⟨m', hm, i + 1, σ8, H8, I8.unpinned, T.keep _ _ _ st7 fun b hb o e => (I8.pin (b, o) (List.mem_append_right _ (List.mem_append_right _ (mem_pinsAt hb e)))).1, fun b hb => ?_, w8⟩
        obtain ⟨o, e, d⟩ := T.obj _ _ st7 b hb
        exact (I8.pin (b, o) (List.mem_append_right _ (List.mem_append_right _ (mem_pinsAt hb e)))).2.1
      refine thn (hg _ _ s7 σ5 H7 x u _ I7' r7 (step x H7 y7)) fun _ s8 ⟨σ8, H8, I8, q8⟩ => ?_
      refine thn (ht _ _ s8 σ8 H8 _ I8 q8) fun ok s9 ⟨H9, I9, q9⟩ => ?_
      cases ok with
      | false =>
        rw [if_neg Bool.false_ne_true] at q9 ⊢
        exact back I9 q9
      | true =>
        rw [if_pos rfl] at q9 ⊢
        refine thn (he _ _ s9 σ8 H9 _ I9 q9) fun y s10 ⟨v10, H10, I10, r10, ys, hy, hl, q10⟩ => ?_
        refine thn (mt_append _ s10 σ8 H10 (.ref s.heap.objs.size) [v10] (.ref s.heap.objs.size) [y] (fun _ H11 => N σ8 H11) I10 rfl (.cons r10 .nil) ⟨_, ys, v10, rfl, rfl, hy, hl, q10⟩) fun _ s11 ⟨v11, H11, I11, _, q11⟩ => ?_
        exact back I11 q11
  exact codeAny_compStart_list (loop _ rfl) (T.self _ 0 _ _ _ (T.keep 0 _ _ st fun b _ o e => kp b o e) (loop _ rfl))
noncomputable def tComp (own : List Str) (fv : List (Str × Nat)) (wi : TI) (g : TG) (tc : TT) (te : TE) : TE := fun σ H Q => wi σ H fun J H1 => ∀ D, H1 D = none → CompR J D (compSt own fv σ) g tc te H1 fun H' => Q (.ref D) H'
theorem free_of {scope : Scope} (ok : X.Ok) (h : ∀ y ∈ scope.names, y.2 = .free → (X.env.scope.names.lookup y.1 = some .cell ∨ X.env.scope.names.lookup y.1 = some .free)) : ∀ y ∈ scope.names, y.2 = .free → ∃ c, X.env.cells.lookup y.1 = some c :=
  fun y hy e => ok.has y.1 (h y hy e)
theorem fr_of {scope sc : Scope} (h : (scope.names.all fun y => !(y.2 == NameKind.free) || (sc.names.lookup y.1 == some NameKind.cell) || (sc.names.lookup y.1 == some NameKind.free)) = true) :
    ∀ y ∈ scope.names, y.2 = .free → (sc.names.lookup y.1 = some .cell ∨ sc.names.lookup y.1 = some .free) := fun y hy e => by
  have q := List.all_eq_true.mp h y hy
  rw [e] at q
  simpa using q
theorem pe_comp {elt tg iter : Expr} {ifs : List Expr} {scope : Scope} {pos : Pos} (own : List Str) (fv : List (Str × Nat)) {wi : TI} {g : TG} {tc : TT} {te : TE} (hc : X.calm = true) (hi : PI X tg iter wi)
    (hg : ∀ s H C fp, PG (cxComp X s H scope C (compN own fv) fp) tg g) (ht : ∀ s H C fp, PIfs (cxComp X s H scope C (compN own fv) fp) ifs tc) (he : ∀ s H C fp, PE (cxComp X s H scope C (compN own fv) fp) elt te) (hfv : FvOk X scope fv)
    (hfr0 : (scope.names.all fun y => !(y.2 == NameKind.free) || (X.env.scope.names.lookup y.1 == some NameKind.cell) || (X.env.scope.names.lookup y.1 == some NameKind.free)) = true)
    (hkind : scope.kind = .function := by rfl) (hnd : (scope.names.map (·.1)).Nodup := by decide +kernel)
    (hnames : ∀ y ∈ scope.names, y.2 = .local → scope.names.lookup y.1 = some .local := by decide +kernel) (hs : ∀ x, foldedSetIterable iter X.env x = pure x := by intro _; rfl) :
    PE X (.ListComp elt [⟨tg, iter, ifs, 0⟩] scope pos) (tComp own fv wi g tc te) := by
  intro pins s σ H Q I h
  have hfr := fr_of hfr0
  rw [eval_ListComp]
  refine wpAny_comprehension_free (use := none) rfl hs (closure_of (free_of I.ok hfr)) hkind hnames (thn (hi pins s σ H _ I h) fun xv s1 h1 => thn h1 fun itv s2 h2 => ?_)
  obtain ⟨it, fp, tn, J, H2, e, I2, T, st2, f2, R⟩ := h2
  subst e
  refine comp_block I2 hc hkind hnd (free_of I.ok hfr) hfv T st2 f2 (fun C => hg _ _ C _) (fun C => ht _ _ C _) (fun C => he _ _ C _) (Fin := fun D H' => Q (.ref D) H') R ?_
  intro D C H' s' I' fin hm hC hn
  obtain ⟨m, hm⟩ := hm
  refine ⟨m, hm, fun h' hs' => ⟨.ref D, H', ?_, rfl, fin⟩⟩
  obtain ⟨f0, f1, _, f3, f4, f5⟩ := I2.fpOk hC hn
  exact I'.turned (t' := s'.toks) (fun b o hb q => (hs'.2 b hb).trans q) f0 f1 f3 f4 f5
theorem ps_comp {elt tg iter : Expr} {ifs : List Expr} {scope : Scope} {pos spos py : Pos} {i : Nat} {x : Str} (own : List Str) (fv : List (Str × Nat)) {wi : TI} {g : TG} {tc : TT} {te : TE} (hN : X.N.Nodup) (hi' : X.N[i]? = some x) (hx : X.env.scope.names.lookup x = some .local)
    (hc : X.calm = true) (hi : PI X tg iter wi)
    (hg : ∀ s H C fp, PG (cxComp X s H scope C (compN own fv) fp) tg g) (ht : ∀ s H C fp, PIfs (cxComp X s H scope C (compN own fv) fp) ifs tc) (he : ∀ s H C fp, PE (cxComp X s H scope C (compN own fv) fp) elt te) (hfv : FvOk X scope fv)
    (hfr0 : (scope.names.all fun y => !(y.2 == NameKind.free) || (X.env.scope.names.lookup y.1 == some NameKind.cell) || (X.env.scope.names.lookup y.1 == some NameKind.free)) = true)
    (hsw : swapsWith (.ListComp elt [⟨tg, iter, ifs, 0⟩] scope pos) (some (.Name x py)) spos.line X.env = pure true := by rfl)
    (hkind : scope.kind = .function := by rfl) (hnd : (scope.names.map (·.1)).Nodup := by decide +kernel)
    (hnames : ∀ y ∈ scope.names, y.2 = .local → scope.names.lookup y.1 = some .local := by decide +kernel) (hs : ∀ x, foldedSetIterable iter X.env x = pure x := by intro _; rfl) :
    PS X (.Assign [.Name x py] (.ListComp elt [⟨tg, iter, ifs, 0⟩] scope pos) spos) (tAsg (tComp own fv wi g tc te) (gName i)) := by
  intro pins s σ H D I h
  have hfr := fr_of hfr0
  rw [exec_Assign_Name_used _ _ _ _ hsw]
  refine wpAny_bind (wpAny_standAt (wpAny_bind ?_))
  show wpAny _ _ (do let _ ← comprehension (.ListComp elt [⟨tg, iter, ifs, 0⟩] scope pos) scope X.env _ (newList []) false (eval iter X.env) (some (assign (.Name x py) X.env))) _ _ s
  refine wpAny_bind (thn (wpAny_comprehension_free (use := some (assign (.Name x py) X.env)) (Q := fun _ s' => SP X pins D .next s') rfl hs (closure_of (free_of I.ok hfr)) hkind hnames
    (thn (hi pins s σ H _ I h) fun xv s1 h1 => thn h1 fun itv s2 h2 => ?_)) fun _ s' q => wpAny_pure (wpAny_pure q))
  obtain ⟨it, fp, tn, J, H2, e, I2, T, st2, f2, R⟩ := h2
  subst e
  refine comp_block I2 hc hkind hnd (free_of I.ok hfr) hfv T st2 f2 (fun C => hg _ _ C _) (fun C => ht _ _ C _) (fun C => he _ _ C _) (Fin := fun L H' => D.nx (σ.set i (some (.ref L))) H') R ?_
  intro L C H' s' I' fin hm hC hn
  obtain ⟨m, hm⟩ := hm
  obtain ⟨f0, f1, f2', f3, f4, f5⟩ := I2.fpOk hC hn
  show wpAny _ _ (assign (.Name x py) X.env (.ref L)) _ _ s'
  refine wpAny_assign_Name (store_ok2 I' hN hi' (.inl hx) (v := .ref L) rfl (fun s'' I'' ⟨a, sb, ha⟩ => ?_) (.inr hx))
  have hCa : C ≠ a := by
    rcases ha with z | z
    · rw [z]; exact f1
    · exact fun q => f4 x a z q.symm
  refine ⟨m, hm.sameBut sb hCa, fun h' hs' => ⟨_, H', ?_, fin⟩⟩
  exact I''.turned (t' := s''.toks) (fun b o hb q => (hs'.2 b hb).trans q) f0 f1 f3 f4 f5
end
end L2
namespace L2
open PySem PySem.Spec PyProof.Rows
noncomputable def CalOk (P : Program) (w : World) (K : PySem.W.Frag) (mg : Str → Option Value) (base : Heap) (k : Nat) (x : Str) (ps : List Str) (sp : Sp) : Prop :=
  ∃ (f : Addr) (fd : FuncData), FnOk P w K mg base CX0 k f fd ps sp ∧ Binds K fd ps [] ∧ PySem.W.keepIn K (.ref f) = true ∧ mg x = some (.ref f)
theorem pe_cal {X : Cx} {k j : Nat} {x : Str} {ps : List Str} {sp : Sp} {e : Expr} {es : List Expr} {t : TA} {p pos : Pos} (C : CalOk X.prog X.w X.K X.mg X.base k x ps sp) (hr : Room j X.A) (ha : PA X (e :: es) t) (hjk : k ≤ j := by decide) (hg : Gl X x := by rfl)
    (hdb : (x == ("__debug__" : Str)) = false := by decide) (he : starEach (e :: es) X.env = (false, eval e X.env) :: starEach es X.env := by rfl) (hpl : (backTo pos (starEach es X.env)).any (·.1) = false := by rfl) :
    PE X (.Call (.Name x p) (e :: es) [] pos) (tCall sp [] E0 t) := by
  obtain ⟨f, fd, F, b, kp, m⟩ := C
  exact pe_call F (hr.mono hjk) hg m kp b .nil pass0 ha hdb he hpl
section
variable {σ : St} {H : Hp} {Q : VK} {D : Ends}
end
section
variable {σ : St} {H : Hp} {Q : VK} {D : Ends}
end
theorem atI_nn {α : Type} {xs : List α} {i : Int} {v : α} (h0 : 0 ≤ i) (h : xs[i.toNat]? = some v) : atI xs i = some v := by
  have q := atI_nat h
  rwa [Int.toNat_of_nonneg h0] at q
theorem Same.tup {K : PySem.W.Frag} {H H' : Hp} {a : Addr} {xs : List V} (e : Same H H') (h : SqT K H a xs) : SqT K H' a xs := by
  rcases h with (h | ⟨o, h⟩) | h
  · exact .inl (.inl (e _ _ h))
  · exact .inl (.inr ⟨o, e _ _ h⟩)
  · exact .inr h
theorem same_upd {H : Hp} {p : Addr} (h : H p = none) (o : HO) : Same H (upd H p o) := fun b u q => by rw [upd_ne (ne_of_none q h)]; exact q
end L2
namespace L2
open PySem PySem.Spec PyProof.Rows
theorem b_max : bootBuiltins "max" = some (.builtin "max") := by decide +kernel
theorem b_min : bootBuiltins "min" = some (.builtin "min") := by decide +kernel
theorem b_len : bootBuiltins "len" = some (.builtin "len") := by decide +kernel
theorem b_list : bootBuiltins "list" = some (.type "list") := by decide +kernel
theorem b_tuple : bootBuiltins "tuple" = some (.type "tuple") := by decide +kernel
end L2
namespace L2
open PySem PySem.Spec PyProof.Rows
section
variable {X : Cx}
end
end L2
namespace L3
open PySem L2
noncomputable abbrev D := PyData
inductive PV where
  | fz (d : D)
  | ow (ds : List D)
  | pl (i : Nat)
noncomputable abbrev PEnv := List (Option PV)
structure Xc where
  cls : Str
  fs : List (Str × D)
inductive Res (α : Type) where
  | ok (a : α)
  | er (x : Xc)
  | bad
namespace Res
noncomputable def bind {α β : Type} (r : Res α) (f : α → Res β) : Res β := match r with
  | .ok a => f a
  | .er x => .er x
  | .bad => .bad
noncomputable def ofO {α : Type} : Option α → Res α
  | some a => .ok a
  | none => .bad
theorem bind_ok {α β : Type} (a : α) (f : α → Res β) : (Res.ok a).bind f = f a := rfl
end Res
noncomputable abbrev Own := Addr → Prop
noncomputable def addO (O : Own) (p : Addr) : Own := fun b => O b ∨ b = p
noncomputable def subO (O : Own) (p : Addr) : Own := fun b => O b ∧ b ≠ p
noncomputable def noO : Own := fun _ => False
noncomputable def Ev (O : Own) (H : Hp) (O' : Own) (H' : Hp) : Prop := ∀ b o, H b = some o → ¬ O b → H' b = some o ∧ ¬ O' b
theorem Ev.refl {O : Own} {H : Hp} : Ev O H O H := fun _ _ h n => ⟨h, n⟩
theorem Ev.trans {O O1 O2 : Own} {H H1 H2 : Hp} (a : Ev O H O1 H1) (b : Ev O1 H1 O2 H2) : Ev O H O2 H2 := fun p o h n => let ⟨h1, n1⟩ := a p o h n; b p o h1 n1
theorem Ev.grow {O : Own} {H H' : Hp} (s : Same H H') : Ev O H O H' := fun b o h n => ⟨s b o h, n⟩
theorem Ev.add {O : Own} {H H' : Hp} {p : Addr} (s : Same H H') (hp : H p = none) : Ev O H (addO O p) H' := fun b o h n => ⟨s b o h, fun z => z.elim n fun e => by subst e; rw [h] at hp; cases hp⟩
theorem Ev.sub {O O' : Own} {H : Hp} (h : ∀ b, O' b → O b) : Ev O H O' H := fun b o e n => ⟨e, fun z => n (h b z)⟩
theorem Ev.mut {O : Own} {H : Hp} {p : Addr} (hp : O p) (u : HO) : Ev O H O (upd H p u) := fun b o h n => ⟨by rw [upd_ne (fun e => n (by rw [e]; exact hp))]; exact h, n⟩
noncomputable def SqLX (K : PySem.W.Frag) (H : Hp) (a : Addr) (xs : List V) : Prop := Rd H a (.lst xs) ∨ ∃ (its : List Value) (n : Nat), K.lookup a = some { cls := .type "list", data := .seq its.toArray n } ∧ xs.length ≤ sizeLine ∧ Vals xs its
theorem SqLX.sq {K : PySem.W.Frag} {H : Hp} {a : Addr} {xs : List V} (h : SqLX K H a xs) : SqL K H a xs := by
  rcases h with h | ⟨its, n, h1, h2, h3⟩
  · exact .inl h
  · exact .inr ⟨_, its.toArray, n, h1, rfl, rfl, rfl, by rw [List.size_toArray, ← h3.length]; exact h2, by simpa using h3⟩
theorem SqLX.of {K : PySem.W.Frag} {H : Hp} {a : Addr} {xs : List V} (h : H a = some (.lst xs)) : SqLX K H a xs := .inl (.inl h)
theorem SqLX.same {K : PySem.W.Frag} {H H' : Hp} {a : Addr} {xs : List V} (e : Same H H') (h : SqLX K H a xs) : SqLX K H' a xs := by
  rcases h with (h | ⟨o, h⟩) | h
  · exact .inl (.inl (e _ _ h))
  · exact .inl (.inr ⟨o, e _ _ h⟩)
  · exact .inr h
theorem same_none (H : Hp) : Same (fun _ => none) H := fun _ _ h => by cases h
noncomputable def SqLO (O : Own) (K : PySem.W.Frag) (H : Hp) (a : Addr) (xs : List V) : Prop := SqLX K H a xs ∧ (O a → SqLX K (fun _ => none) a xs)
noncomputable def SqTO (O : Own) (K : PySem.W.Frag) (H : Hp) (a : Addr) (xs : List V) : Prop := SqT K H a xs ∧ (O a → SqT K (fun _ => none) a xs)
section
variable {O O' : Own} {K : PySem.W.Frag} {H H' : Hp} {a : Addr} {xs : List V}
theorem SqLO.ev (h : SqLO O K H a xs) (e : Ev O H O' H') : SqLO O' K H' a xs := by
  obtain ⟨h, k⟩ := h
  by_cases z : O a
  · exact ⟨SqLX.same (same_none H') (k z), fun _ => k z⟩
  · rcases h with (h | ⟨o, h⟩) | h
    · obtain ⟨h1, h2⟩ := e a _ h z
      exact ⟨.inl (.inl h1), fun y => absurd y h2⟩
    · obtain ⟨h1, h2⟩ := e a _ h z
      exact ⟨.inl (.inr ⟨o, h1⟩), fun y => absurd y h2⟩
    · exact ⟨.inr h, fun _ => .inr h⟩
theorem SqTO.ev (h : SqTO O K H a xs) (e : Ev O H O' H') : SqTO O' K H' a xs := by
  obtain ⟨h, k⟩ := h
  by_cases z : O a
  · exact ⟨(same_none H').tup (k z), fun _ => k z⟩
  · rcases h with (h | ⟨o, h⟩) | h
    · obtain ⟨h1, h2⟩ := e a _ h z
      exact ⟨.inl (.inl h1), fun y => absurd y h2⟩
    · obtain ⟨h1, h2⟩ := e a _ h z
      exact ⟨.inl (.inr ⟨o, h1⟩), fun y => absurd y h2⟩
    · exact ⟨.inr h, fun _ => .inr h⟩
end
mutual
inductive DV (O : Own) (K : PySem.W.Frag) (H : Hp) : V → D → Prop
  | non : DV O K H .non .none
  | bl (b : Bool) : DV O K H (.bl b) (.bool b)
  | int (i : Int) : DV O K H (.int i) (.int i)
  | str (x : Str) : DV O K H (.str x) (.str x)
  | tup {a : Addr} {xs : List V} {ds : List D} : SqTO O K H a xs → DVs O K H xs ds → DV O K H (.ref a) (.tuple ds)
  | lst {a : Addr} {xs : List V} {ds : List D} : SqLO O K H a xs → DVs O K H xs ds → DV O K H (.ref a) (.list ds)
inductive DVs (O : Own) (K : PySem.W.Frag) (H : Hp) : List V → List D → Prop
  | nil : DVs O K H [] []
  | cons {v : V} {vs : List V} {d : D} {ds : List D} : DV O K H v d → DVs O K H vs ds → DVs O K H (v :: vs) (d :: ds)
end
section
variable {O O' : Own} {K : PySem.W.Frag} {H H' : Hp}
mutual
theorem DV.ev (e : Ev O H O' H') : ∀ {v : V} {d : D}, DV O K H v d → DV O' K H' v d
  | _, _, .non => .non
  | _, _, .bl b => .bl b
  | _, _, .int i => .int i
  | _, _, .str x => .str x
  | _, _, .tup h hs => .tup (h.ev e) (DVs.ev e hs)
  | _, _, .lst h hs => .lst (h.ev e) (DVs.ev e hs)
theorem DVs.ev (e : Ev O H O' H') : ∀ {vs : List V} {ds : List D}, DVs O K H vs ds → DVs O' K H' vs ds
  | _, _, .nil => .nil
  | _, _, .cons h hs => .cons (DV.ev e h) (DVs.ev e hs)
end
theorem DVs.length : ∀ {vs : List V} {ds : List D}, DVs O K H vs ds → vs.length = ds.length
  | _, _, .nil => rfl
  | _, _, .cons _ t => by rw [List.length_cons, List.length_cons, t.length]
theorem DVs.get : ∀ {vs : List V} {ds : List D} {i : Nat} {d : D}, DVs O K H vs ds → ds[i]? = some d → ∃ v, vs[i]? = some v ∧ DV O K H v d
  | _, _, _, _, .nil, e => by simp at e
  | _, _, 0, _, .cons h _, e => by simp at e; subst e; exact ⟨_, rfl, h⟩
  | _, _, i + 1, d, .cons _ t, e => by
    obtain ⟨v, h1, h2⟩ := DVs.get (i := i) (d := d) t (by simpa using e)
    exact ⟨v, by simpa using h1, h2⟩
theorem DVs.getV : ∀ {vs : List V} {ds : List D} {i : Nat} {v : V}, DVs O K H vs ds → vs[i]? = some v → ∃ d, ds[i]? = some d ∧ DV O K H v d
  | _, _, _, _, .nil, e => by simp at e
  | _, _, 0, _, .cons h _, e => by simp at e; subst e; exact ⟨_, rfl, h⟩
  | _, _, i + 1, v, .cons _ t, e => by
    obtain ⟨d, h1, h2⟩ := DVs.getV (i := i) (v := v) t (by simpa using e)
    exact ⟨d, by simpa using h1, h2⟩
theorem DVs.append : ∀ {vs ws : List V} {ds es : List D}, DVs O K H vs ds → DVs O K H ws es → DVs O K H (vs ++ ws) (ds ++ es)
  | _, _, _, _, .nil, h => h
  | _, _, _, _, .cons h t, g => .cons h (DVs.append t g)
theorem DVs.take : ∀ {vs : List V} {ds : List D} (n : Nat), DVs O K H vs ds → DVs O K H (vs.take n) (ds.take n)
  | _, _, 0, _ => .nil
  | _, _, _ + 1, .nil => .nil
  | _, _, n + 1, .cons h t => .cons h (DVs.take n t)
theorem DVs.drop : ∀ {vs : List V} {ds : List D} (n : Nat), DVs O K H vs ds → DVs O K H (vs.drop n) (ds.drop n)
  | _, _, 0, h => h
  | _, _, _ + 1, .nil => .nil
  | _, _, n + 1, .cons _ t => DVs.drop n t
theorem DVs.flat {vs : List V} {ds : List D} (h : DVs O K H vs ds) : ∀ n : Nat, DVs O K H (List.replicate n vs).flatten (List.replicate n ds).flatten
  | 0 => .nil
  | n + 1 => by rw [List.replicate_succ, List.replicate_succ, List.flatten_cons, List.flatten_cons]; exact h.append (DVs.flat h n)
mutual
theorem DV.plain : ∀ {v : V} {d : D}, DV O K H v d → L2.DV K H v d
  | _, _, .non => .non
  | _, _, .bl b => .bl b
  | _, _, .int i => .int i
  | _, _, .str x => .str x
  | _, _, .tup h hs => .tup h.1 (DVs.plain hs)
  | _, _, .lst h hs => .lst h.1.sq (DVs.plain hs)
theorem DVs.plain : ∀ {vs : List V} {ds : List D}, DVs O K H vs ds → L2.DVs K H vs ds
  | _, _, .nil => .nil
  | _, _, .cons h hs => .cons (DV.plain h) (DVs.plain hs)
end
end
noncomputable def DX (O : Own) (K : PySem.W.Frag) (H : Hp) (v : V) : D → Prop
  | .list ds => ∃ a xs, v = .ref a ∧ SqLX K H a xs ∧ DVs O K H xs ds
  | d => DV O K H v d
theorem DV.x {O : Own} {K : PySem.W.Frag} {H : Hp} {v : V} {d : D} (h : DV O K H v d) : DX O K H v d := by
  cases h with
  | lst h hs => exact ⟨_, _, rfl, h.1, hs⟩
  | non => exact .non
  | bl b => exact .bl b
  | int i => exact .int i
  | str x => exact .str x
  | tup h hs => exact .tup h hs
theorem DX.plain {O : Own} {K : PySem.W.Frag} {H : Hp} {v : V} {d : D} (h : DX O K H v d) : L2.DV K H v d := by
  cases d with
  | list ds =>
    obtain ⟨a, xs, rfl, h1, h2⟩ := h
    exact .lst h1.sq h2.plain
  | none => exact DV.plain h
  | bool b => exact DV.plain h
  | int i => exact DV.plain h
  | str x => exact DV.plain h
  | tuple ds => exact DV.plain h
  | dict kvs => exact DV.plain h
noncomputable def SlotOk (K : PySem.W.Frag) (H0 : Hp) (O : Own) (H : Hp) (v : V) : PV → Prop
  | .fz d => DV O K H v d
  | .ow ds => ∃ a vs, v = .ref a ∧ O a ∧ H0 a = none ∧ H a = some (.lst vs) ∧ DVs O K H vs ds
  | .pl _ => False
structure Rl (K : PySem.W.Frag) (B : Own) (H0 : Hp) (O : Own) (σ : St) (H : Hp) (ρ : PEnv) : Prop where
  same : Same H0 H
  bo : ∀ a, B a → O a
  bd : ∀ a, B a → H0 a ≠ none
  od : ∀ a, H a = none → ¬ O a
  len : σ.length = ρ.length
  slot : ∀ (i : Nat) (x : PV), ρ[i]? = some (some x) → ∃ v, σ[i]? = some (some v) ∧ SlotOk K H0 O H v x
  one : ∀ (i j : Nat) (ds es : List D) (v : V), ρ[i]? = some (some (.ow ds)) → ρ[j]? = some (some (.ow es)) → σ[i]? = some (some v) → σ[j]? = some (some v) → i = j
noncomputable def PvOk (K : PySem.W.Frag) (H0 : Hp) (O : Own) (σ : St) (H : Hp) (ρ : PEnv) (v : V) : PV → Prop
  | .fz d => DV O K H v d
  | .ow ds => ∃ a vs, v = .ref a ∧ O a ∧ H0 a = none ∧ H a = some (.lst vs) ∧ DVs O K H vs ds ∧ ∀ (i : Nat) (es : List D), ρ[i]? = some (some (.ow es)) → σ[i]? ≠ some (some (.ref a))
  | .pl i => σ[i]? = some (some v)
noncomputable def Settled : PV → Prop
  | .ow _ => False
  | _ => True
noncomputable def settle : PV → PV
  | .ow ds => .fz (.list ds)
  | p => p
section
variable {K : PySem.W.Frag} {B O O' : Own} {H0 H H' : Hp} {σ : St} {ρ ρ' : PEnv} {v : V}
theorem SlotOk.grow {x : PV} (s : Same H H') (h : SlotOk K H0 O H v x) : SlotOk K H0 O H' v x := by
  cases x with
  | fz d => exact DV.ev (Ev.grow s) h
  | ow ds =>
    obtain ⟨a, vs, e, h1, h2, h3, h4⟩ := h
    exact ⟨a, vs, e, h1, h2, s _ _ h3, h4.ev (Ev.grow s)⟩
  | pl i => exact h
theorem Rl.grow (R : Rl K B H0 O σ H ρ) (s : Same H H') : Rl K B H0 O σ H' ρ :=
  ⟨R.same.trans s, R.bo, R.bd, fun a h => R.od a (s.free h), R.len, fun i x h => let ⟨v, h1, h2⟩ := R.slot i x h; ⟨v, h1, h2.grow s⟩, R.one⟩
theorem Rl.none0 (R : Rl K B H0 O σ H ρ) {p : Addr} (h : H p = none) : H0 p = none := R.same.free h
theorem Rl.add (R : Rl K B H0 O σ H ρ) {p : Addr} (s : Same H H') (hp : H p = none) (hq : H' p ≠ none) : Rl K B H0 (addO O p) σ H' ρ := by
  refine ⟨R.same.trans s, fun a h => .inl (R.bo a h), R.bd, fun a h z => z.elim (R.od a (s.free h)) fun e => hq (by rw [← e]; exact h), R.len, fun i x h => ?_, R.one⟩
  obtain ⟨v, h1, h2⟩ := R.slot i x h
  refine ⟨v, h1, ?_⟩
  cases x with
  | fz d => exact DV.ev (Ev.add s hp) h2
  | ow ds =>
    obtain ⟨a, vs, e, g1, g2, g3, g4⟩ := h2
    exact ⟨a, vs, e, .inl g1, g2, s _ _ g3, g4.ev (Ev.add s hp)⟩
  | pl i => exact h2
theorem Rl.notB (R : Rl K B H0 O σ H ρ) {a : Addr} (h : H0 a = none) : ¬ B a := fun z => R.bd a z h
theorem Rl.sub (R : Rl K B H0 O σ H ρ) {a : Addr} (h0 : H0 a = none) (h : ∀ (i : Nat) (es : List D), ρ[i]? = some (some (.ow es)) → σ[i]? ≠ some (some (.ref a))) : Rl K B H0 (subO O a) σ H ρ := by
  refine ⟨R.same, fun b hb => ⟨R.bo b hb, fun e => R.notB h0 (e ▸ hb)⟩, R.bd, fun b hb z => R.od b hb z.1, R.len, fun i x hx => ?_, R.one⟩
  obtain ⟨v, h1, h2⟩ := R.slot i x hx
  refine ⟨v, h1, ?_⟩
  cases x with
  | fz d => exact DV.ev (Ev.sub fun b z => z.1) h2
  | ow ds =>
    obtain ⟨b, vs, e, g1, g2, g3, g4⟩ := h2
    subst e
    exact ⟨b, vs, rfl, ⟨g1, fun e => h i ds hx (by rw [h1, e])⟩, g2, g3, g4.ev (Ev.sub fun b z => z.1)⟩
  | pl i => exact h2
theorem lst_of {a : Addr} {vs : List V} {ds : List D} (h : H a = some (.lst vs)) (n : ¬ O a) (hd : DVs O K H vs ds) : DV O K H (.ref a) (.list ds) := .lst ⟨SqLX.of h, fun z => absurd z n⟩ hd
theorem settle_ok {pv : PV} (R : Rl K B H0 O σ H ρ) (h : PvOk K H0 O σ H ρ v pv) : ∃ O', Ev O H O' H ∧ Rl K B H0 O' σ H ρ ∧ PvOk K H0 O' σ H ρ v (settle pv) := by
  cases pv with
  | fz d => exact ⟨O, .refl, R, h⟩
  | pl i => exact ⟨O, .refl, R, h⟩
  | ow ds =>
    obtain ⟨a, vs, rfl, h1, h2, h3, h4, h5⟩ := h
    exact ⟨subO O a, Ev.sub fun b z => z.1, R.sub h2 h5, lst_of h3 (fun z => z.2 rfl) (h4.ev (Ev.sub fun b z => z.1))⟩
theorem settled (pv : PV) : Settled (settle pv) := by cases pv <;> trivial
theorem PvOk.keep {pv : PV} (hs : Settled pv) (e : Ev O H O' H') (h : PvOk K H0 O σ H ρ v pv) : PvOk K H0 O' σ H' ρ' v pv := by
  cases pv with
  | fz d => exact DV.ev e h
  | pl i => exact h
  | ow ds => exact hs.elim
noncomputable def rdS : Option (Option PV) → Option D
  | some (some (.fz d)) => some d
  | some (some (.ow ds)) => some (.list ds)
  | _ => none
noncomputable def rdD (ρ : PEnv) : PV → Option D
  | .fz d => some d
  | .ow ds => some (.list ds)
  | .pl i => rdS ρ[i]?
theorem rd_ok {pv : PV} {d : D} (R : Rl K B H0 O σ H ρ) (h : PvOk K H0 O σ H ρ v pv) (e : rdD ρ pv = some d) : DX O K H v d := by
  cases pv with
  | fz d' => cases e; exact DV.x h
  | ow ds =>
    cases e
    obtain ⟨a, vs, rfl, h1, h2, h3, h4, h5⟩ := h
    exact ⟨a, vs, rfl, SqLX.of h3, h4⟩
  | pl i =>
    have e' : rdS ρ[i]? = some d := e
    have h' : σ[i]? = some (some v) := h
    cases q : ρ[i]? with
    | none => rw [q] at e'; cases e'
    | some o =>
      cases o with
      | none => rw [q] at e'; cases e'
      | some x =>
        obtain ⟨u, g1, g2⟩ := R.slot i x q
        rw [h'] at g1
        cases g1
        rw [q] at e'
        cases x with
        | fz d' => cases e'; exact DV.x g2
        | ow ds =>
          cases e'
          obtain ⟨a, vs, rfl, k1, k2, k3, k4⟩ := g2
          exact ⟨a, vs, rfl, SqLX.of k3, k4⟩
        | pl j => exact g2.elim
noncomputable def toS (ρ : PEnv) (i : Nat) : Option (Option PV) → Option (D × PEnv)
  | some (some (.fz d)) => some (d, ρ)
  | some (some (.ow ds)) => some (.list ds, ρ.set i (some (.fz (.list ds))))
  | _ => none
noncomputable def toD (ρ : PEnv) : PV → Option (D × PEnv)
  | .fz d => some (d, ρ)
  | .ow ds => some (.list ds, ρ)
  | .pl i => toS ρ i ρ[i]?
theorem set_get {α : Type} {l : List α} {i j : Nat} {x y : α} (h : (l.set i x)[j]? = some y) : (j = i ∧ y = x) ∨ (j ≠ i ∧ l[j]? = some y) := by
  rw [List.getElem?_set] at h
  by_cases e : i = j
  · rw [if_pos e] at h
    split at h
    · cases h; exact .inl ⟨e.symm, rfl⟩
    · cases h
  · rw [if_neg e] at h; exact .inr ⟨fun z => e z.symm, h⟩
theorem to_ok {pv : PV} {d : D} (R : Rl K B H0 O σ H ρ) (h : PvOk K H0 O σ H ρ v pv) (e : toD ρ pv = some (d, ρ')) : ∃ O', Ev O H O' H ∧ Rl K B H0 O' σ H ρ' ∧ DV O' K H v d := by
  cases pv with
  | fz d' => cases e; exact ⟨O, .refl, R, h⟩
  | ow ds =>
    cases e
    obtain ⟨a, vs, rfl, h1, h2, h3, h4, h5⟩ := h
    exact ⟨subO O a, Ev.sub fun b z => z.1, R.sub h2 h5, lst_of h3 (fun z => z.2 rfl) (h4.ev (Ev.sub fun b z => z.1))⟩
  | pl i =>
    have e' : toS ρ i ρ[i]? = some (d, ρ') := e
    have h' : σ[i]? = some (some v) := h
    cases q : ρ[i]? with
    | none => rw [q] at e'; cases e'
    | some o =>
      cases o with
      | none => rw [q] at e'; cases e'
      | some x =>
        obtain ⟨u, g1, g2⟩ := R.slot i x q
        rw [h'] at g1
        cases g1
        rw [q] at e'
        cases x with
        | fz d' => cases e'; exact ⟨O, .refl, R, g2⟩
        | pl j => exact g2.elim
        | ow ds =>
          cases e'
          obtain ⟨a, vs, rfl, k1, k2, k3, k4⟩ := g2
          have es : Ev O H (subO O a) H := Ev.sub fun b z => z.1
          have dv : DV (subO O a) K H (.ref a) (.list ds) := lst_of k3 (fun z => z.2 rfl) (k4.ev es)
          refine ⟨subO O a, es, ⟨R.same, fun b hb => ⟨R.bo b hb, fun e => R.notB k2 (e ▸ hb)⟩, R.bd, fun b hb z => R.od b hb z.1, by rw [List.length_set]; exact R.len, fun j x hx => ?_, fun j k xs ys w hj hk => ?_⟩, dv⟩
          · rcases set_get hx with ⟨rfl, ee⟩ | ⟨hne, hx⟩
            · cases ee
              exact ⟨_, h', dv⟩
            · obtain ⟨u, m1, m2⟩ := R.slot j x hx
              refine ⟨u, m1, ?_⟩
              cases x with
              | fz d => exact DV.ev es m2
              | pl i => exact m2
              | ow xs =>
                obtain ⟨b, us, rfl, n1, n2, n3, n4⟩ := m2
                exact ⟨b, us, rfl, ⟨n1, fun z => hne (R.one j i xs ds (.ref a) hx q (by rw [m1, z]) h')⟩, n2, n3, n4.ev es⟩
          · rcases set_get hj with ⟨rfl, ee⟩ | ⟨_, hj⟩
            · cases ee
            · rcases set_get hk with ⟨rfl, ee⟩ | ⟨_, hk⟩
              · cases ee
              · exact R.one j k xs ys w hj hk
end
noncomputable def XOk (K : PySem.W.Frag) (B : Own) (H : Hp) (c : Value) (dx : Option Addr) (x : Xc) : Prop :=
  (∃ a, c = .ref a ∧ PySem.W.nsIn K mainGlobals x.cls = some (some (.ref a))) ∧ ∃ fs, (∀ p, dx = some p → H p = some (.xd fs)) ∧ ∀ f d, x.fs.lookup f = some d → dx ≠ none ∧ ∃ v, fs.lookup f = some v ∧ DV B K H v d
noncomputable def XE (K : PySem.W.Frag) (B : Own) (H0 : Hp) (E : XK) (x : Xc) : Prop := ∀ c dx H', Same H0 H' → XOk K B H' c dx x → E c dx H'
noncomputable def WR {α : Type} (K : PySem.W.Frag) (E : XK) (B : Own) (H0 : Hp) (P : α → Prop) : Res α → Prop
  | .ok a => P a
  | .er x => XE K B H0 E x
  | .bad => False
section
variable {K : PySem.W.Frag} {E : XK} {B : Own} {H0 : Hp}
theorem WR.bind {α β : Type} {P : β → Prop} {r : Res α} {k : α → Res β} (h : WR K E B H0 P (r.bind k)) : WR K E B H0 (fun a => WR K E B H0 P (k a)) r := by
  cases r <;> exact h
theorem WR.ofO {α β : Type} {P : β → Prop} {o : Option α} {k : α → Res β} (h : WR K E B H0 P ((Res.ofO o).bind k)) : ∃ a, o = some a ∧ WR K E B H0 P (k a) := by
  cases o with
  | none => exact h.elim
  | some a => exact ⟨a, rfl, h⟩
theorem WR.imp {α : Type} {P P' : α → Prop} {r : Res α} (h : WR K E B H0 P r) (g : ∀ a, P a → P' a) : WR K E B H0 P' r := by
  cases r with
  | ok a => exact g a h
  | er x => exact h
  | bad => exact h
end
noncomputable abbrev FE := PEnv → Res (PV × PEnv)
noncomputable abbrev FT := PEnv → Res (Bool × PEnv)
noncomputable abbrev FA := PEnv → Res (List PV × PEnv)
noncomputable def EO (K : PySem.W.Frag) (E : XK) (t : TE) (f : FE) : Prop :=
  ∀ (B : Own) (H0 : Hp) (O : Own) (σ : St) (H : Hp) (ρ : PEnv) (Q : VK), Rl K B H0 O σ H ρ → WR K E B H0 (fun r => ∀ O' v H', Ev O H O' H' → Rl K B H0 O' σ H' r.2 → PvOk K H0 O' σ H' r.2 v r.1 → Q v H') (f ρ) → t σ H Q
noncomputable def TTO (K : PySem.W.Frag) (E : XK) (t : TT) (f : FT) : Prop :=
  ∀ (B : Own) (H0 : Hp) (O : Own) (σ : St) (H : Hp) (ρ : PEnv) (Q : Bool → Hp → Prop), Rl K B H0 O σ H ρ → WR K E B H0 (fun r => ∀ O' H', Ev O H O' H' → Rl K B H0 O' σ H' r.2 → Q r.1 H') (f ρ) → t σ H Q
noncomputable def AO (K : PySem.W.Frag) (E : XK) (t : TA) (f : FA) : Prop :=
  ∀ (B : Own) (H0 : Hp) (O : Own) (σ : St) (H : Hp) (ρ : PEnv) (Q : List V → Hp → Prop), Rl K B H0 O σ H ρ → WR K E B H0 (fun r => ∀ O' vs H', Ev O H O' H' → Rl K B H0 O' σ H' r.2 → Paired (fun v pv => PvOk K H0 O' σ H' r.2 v pv ∧ Settled pv) vs r.1 → Q vs H') (f ρ) → t σ H Q
end L3
namespace L3
open PySem L2
inductive RV where
  | fz (d : D)
  | ow (ds : List D)
noncomputable def RV.pv : RV → PV
  | .fz d => .fz d
  | .ow ds => .ow ds
noncomputable def Fin (O : Own) (K : PySem.W.Frag) (H : Hp) (Q : VK) : RV → Prop
  | .fz d => ∀ v H', Same H H' → DV O K H' v d → Q v H'
  | .ow ds => ∀ p vs H', Same H H' → H p = none → H' p = some (.lst vs) → DVs (addO O p) K H' vs ds → Q (.ref p) H'
noncomputable def NoneO (O : Own) (H : Hp) : Prop := ∀ a, H a = none → ¬ O a
section
variable {K : PySem.W.Frag} {E : XK} {B O O' : Own} {H0 H H' : Hp} {σ : St} {ρ ρ' : PEnv} {v : V}
theorem fin_of {Q : VK} {rv : RV} (R : Rl K B H0 O σ H ρ) (h : ∀ O' v H', Ev O H O' H' → Rl K B H0 O' σ H' ρ → PvOk K H0 O' σ H' ρ v rv.pv → Q v H') : Fin O K H Q rv := by
  cases rv with
  | fz d => exact fun v H' s dv => h O v H' (Ev.grow s) (R.grow s) dv
  | ow ds =>
    intro p vs H' s hp e dv
    refine h (addO O p) (.ref p) H' (Ev.add s hp) (R.add s hp (by rw [e]; simp)) ⟨p, vs, rfl, .inr rfl, R.none0 hp, e, dv, fun i es hi z => ?_⟩
    obtain ⟨u, h1, a, us, e2, g1, g2, g3, g4⟩ := R.slot i _ hi
    rw [z] at h1
    cases h1
    cases e2
    rw [hp] at g3
    cases g3
theorem Fin.new {Q : VK} {ds : List D} {vs : List V} (hd : DVs O K H vs ds) (h : Fin O K H Q (.ow ds)) : ∀ p, H p = none → Q (.ref p) (upd H p (.lst vs)) := fun p hp =>
  h p vs _ (same_upd hp _) hp upd_same (hd.ev (Ev.add (same_upd hp _) hp))
theorem Fin.newT {Q : VK} {ds : List D} {vs : List V} (hd : DVs O K H vs ds) (hO : NoneO O H) (h : Fin O K H Q (.fz (.tuple ds))) : ∀ p, H p = none → Q (.ref p) (upd H p (.tup vs)) := fun p hp =>
  h (.ref p) _ (same_upd hp _) (.tup ⟨SqT.of upd_same, fun z => absurd z (hO p hp)⟩ (hd.ev (Ev.grow (same_upd hp _))))
theorem Fin.at {Q : VK} {d : D} (h : Fin O K H Q (.fz d)) (hv : DV O K H v d) : Q v H := h v H (Same.refl H) hv
noncomputable def pVarS (ρ : PEnv) (i : Nat) : Option (Option PV) → Res (PV × PEnv)
  | some (some (.fz d)) => .ok (.fz d, ρ)
  | some (some (.ow _)) => .ok (.pl i, ρ)
  | _ => .bad
noncomputable def pVar (i : Nat) : FE := fun ρ => pVarS ρ i ρ[i]?
theorem eo_var {i : Nat} : EO K E (tVar i) (pVar i) := by
  intro B H0 O σ H ρ Q R w
  unfold pVar at w
  cases q : ρ[i]? with
  | none => rw [q] at w; exact w.elim
  | some o =>
    cases o with
    | none => rw [q] at w; exact w.elim
    | some x =>
      rw [q] at w
      obtain ⟨v, h1, h2⟩ := R.slot i x q
      cases x with
      | fz d => exact ⟨v, h1, w O v H .refl R h2⟩
      | ow ds => exact ⟨v, h1, w O v H .refl R h1⟩
      | pl j => exact w.elim
noncomputable def pC (d : D) : FE := fun ρ => .ok (.fz d, ρ)
theorem eo_c {v : V} {d : D} (h : ∀ O H, DV O K H v d) : EO K E (tC v) (pC d) := fun B H0 O σ H ρ Q R w => w O v H .refl R (h O H)
theorem eo_int {i : Int} : EO K E (tC (.int i)) (pC (.int i)) := eo_c fun _ _ => .int i
theorem eo_str {x : Str} : EO K E (tC (.str x)) (pC (.str x)) := eo_c fun _ _ => .str x
theorem eo_non : EO K E (tC .non) (pC .none) := eo_c fun _ _ => .non
noncomputable def OpP (K : PySem.W.Frag) (r : R2) (f : D → D → Option RV) : Prop := ∀ (O : Own) (H : Hp) (x y : V) (dx dy : D) (rv : RV) (Q : VK), NoneO O H → DX O K H x dx → DX O K H y dy → f dx dy = some rv → Fin O K H Q rv → r x y H Q
noncomputable def pOp (f : D → D → Option RV) (fa fb : FE) : FE := fun ρ => (fa ρ).bind fun a => (fb a.2).bind fun b => (Res.ofO (rdD b.2 (settle a.1))).bind fun dx => (Res.ofO (rdD b.2 b.1)).bind fun dy => (Res.ofO (f dx dy)).bind fun rv => .ok (rv.pv, b.2)
theorem eo_op {r : R2} {f : D → D → Option RV} {ta tb : TE} {fa fb : FE} (hr : OpP K r f) (ha : EO K E ta fa) (hb : EO K E tb fb) : EO K E (tOp r ta tb) (pOp f fa fb) := by
  intro B H0 O σ H ρ Q R w
  refine ha B H0 O σ H ρ _ R (w.bind.imp fun a w1 O1 x H1 e1 R1 p1 => ?_)
  obtain ⟨O2, e2, R2, p2⟩ := settle_ok R1 p1
  refine hb B H0 O2 σ H1 a.2 _ R2 (w1.bind.imp fun b w2 O3 y H3 e3 R3 p3 => ?_)
  have p2' := p2.keep (settled a.1) e3 (ρ' := b.2)
  obtain ⟨dx, qx, w2⟩ := w2.ofO
  obtain ⟨dy, qy, w2⟩ := w2.ofO
  obtain ⟨rv, qf, w2⟩ := w2.ofO
  refine hr O3 H3 x y dx dy rv Q R3.od (rd_ok R3 p2' qx) (rd_ok R3 p3 qy) qf (fin_of R3 fun O4 v H4 e4 R4 p4 => ?_)
  exact w2 O4 v H4 (e1.trans (e2.trans (e3.trans e4))) R4 p4
noncomputable def asB : D → Option Bool
  | .bool b => some b
  | _ => none
theorem asB_ok {O : Own} {H : Hp} {x : V} {d : D} {b : Bool} (h : DX O K H x d) (e : asB d = some b) : x = .bl b := by
  cases d <;> cases e
  cases h
  rfl
noncomputable def pBool (fa : FE) : PEnv → Res (Bool × PEnv) := fun ρ => (fa ρ).bind fun a => (Res.ofO (rdD a.2 a.1)).bind fun d => (Res.ofO (asB d)).bind fun b => .ok (b, a.2)
theorem tto_test {ta : TE} {fa : FE} (ha : EO K E ta fa) : TTO K E (tTest ta) (pBool fa) := by
  intro B H0 O σ H ρ Q R w
  refine ha B H0 O σ H ρ _ R (w.bind.imp fun a w1 O1 x H1 e1 R1 p1 => ?_)
  obtain ⟨d, qd, w1⟩ := w1.ofO
  obtain ⟨b, qb, w1⟩ := w1.ofO
  exact ⟨b, asB_ok (rd_ok R1 p1 qd) qb, w1 O1 H1 e1 R1⟩
theorem tto_b {ta : TE} {fa : FE} (ha : EO K E ta fa) : TTO K E (tB ta) (pBool fa) := tto_test ha
noncomputable def qAnd (fa fb : FT) : FT := fun ρ => (fa ρ).bind fun a => if a.1 = true then fb a.2 else .ok (false, a.2)
noncomputable def qOr (fa fb : FT) : FT := fun ρ => (fa ρ).bind fun a => if a.1 = true then .ok (true, a.2) else fb a.2
theorem TTO.next {t : TT} {f : FT} {Q : Bool → Hp → Prop} (h : TTO K E t f) {O1 : Own} {H1 : Hp} {ρ : PEnv} (R : Rl K B H0 O1 σ H1 ρ) (e1 : Ev O H O1 H1) (w : WR K E B H0 (fun r => ∀ O' H', Ev O H O' H' → Rl K B H0 O' σ H' r.2 → Q r.1 H') (f ρ)) : t σ H1 Q :=
  h B H0 O1 σ H1 ρ Q R (w.imp fun r q O' H' e' R' => q O' H' (e1.trans e') R')
theorem EO.next {t : TE} {f : FE} {Q : VK} (h : EO K E t f) {O1 : Own} {H1 : Hp} {ρ : PEnv} (R : Rl K B H0 O1 σ H1 ρ) (e1 : Ev O H O1 H1) (w : WR K E B H0 (fun r => ∀ O' v H', Ev O H O' H' → Rl K B H0 O' σ H' r.2 → PvOk K H0 O' σ H' r.2 v r.1 → Q v H') (f ρ)) : t σ H1 Q :=
  h B H0 O1 σ H1 ρ Q R (w.imp fun r q O' v H' e' R' p' => q O' v H' (e1.trans e') R' p')
theorem tto_and {t u : TT} {f g : FT} (h1 : TTO K E t f) (h2 : TTO K E u g) : TTO K E (tAnd t u) (qAnd f g) := by
  intro B H0 O σ H ρ Q R w
  refine h1 B H0 O σ H ρ _ R (w.bind.imp fun a w1 O1 H1 e1 R1 => ?_)
  obtain ⟨b, ρ1⟩ := a
  cases b with
  | true => exact h2.next R1 e1 w1
  | false => exact w1 O1 H1 e1 R1
theorem tto_or {t u : TT} {f g : FT} (h1 : TTO K E t f) (h2 : TTO K E u g) : TTO K E (tOr t u) (qOr f g) := by
  intro B H0 O σ H ρ Q R w
  refine h1 B H0 O σ H ρ _ R (w.bind.imp fun a w1 O1 H1 e1 R1 => ?_)
  obtain ⟨b, ρ1⟩ := a
  cases b with
  | true => exact w1 O1 H1 e1 R1
  | false => exact h2.next R1 e1 w1
noncomputable def qTrue : FT := fun ρ => .ok (true, ρ)
theorem tto_true : TTO K E tTrue qTrue := fun B H0 O σ H ρ Q R w => w O H .refl R
noncomputable def pOr (fa fb : FE) : FE := fun ρ => (pBool fa ρ).bind fun a => if a.1 = true then .ok (.fz (.bool true), a.2) else fb a.2
theorem eo_or {ta tb : TE} {fa fb : FE} (ha : EO K E ta fa) (hb : EO K E tb fb) : EO K E (tOrV ta tb) (pOr fa fb) := by
  intro B H0 O σ H ρ Q R w
  refine tto_test ha B H0 O σ H ρ (fun c H1 => if c = true then Q (.bl true) H1 else tb σ H1 Q) R (w.bind.imp fun a w1 O1 H1 e1 R1 => ?_)
  obtain ⟨b, ρ1⟩ := a
  cases b with
  | true => exact w1 O1 _ H1 e1 R1 (.bl true)
  | false => exact hb.next R1 e1 w1
noncomputable def aNil : FA := fun ρ => .ok ([], ρ)
noncomputable def aCons (fa : FE) (fr : FA) : FA := fun ρ => (fa ρ).bind fun a => (fr a.2).bind fun b => .ok (settle a.1 :: b.1, b.2)
theorem ao_nil : AO K E tNil aNil := fun B H0 O σ H ρ Q R w => w O [] H .refl R .nil
theorem ao_cons {ta : TE} {tr : TA} {fa : FE} {fr : FA} (ha : EO K E ta fa) (hr : AO K E tr fr) : AO K E (tCons ta tr) (aCons fa fr) := by
  intro B H0 O σ H ρ Q R w
  refine ha B H0 O σ H ρ _ R (w.bind.imp fun a w1 O1 x H1 e1 R1 p1 => ?_)
  obtain ⟨O2, e2, R2, p2⟩ := settle_ok R1 p1
  refine hr B H0 O2 σ H1 a.2 _ R2 (w1.bind.imp fun b w2 O3 ys H3 e3 R3 p3 => ?_)
  exact w2 O3 (x :: ys) H3 (e1.trans (e2.trans e3)) R3 (.cons ⟨p2.keep (settled a.1) e3, settled a.1⟩ p3)
noncomputable def rdDs (ρ : PEnv) : List PV → Option (List D)
  | [] => some []
  | p :: r => match rdD ρ p with
    | some d => (match rdDs ρ r with
      | some ds => some (d :: ds)
      | none => none)
    | none => none
theorem rds_ok (R : Rl K B H0 O σ H ρ) : ∀ {vs : List V} {ps : List PV} {ds : List D}, Paired (fun v pv => PvOk K H0 O σ H ρ v pv ∧ Settled pv) vs ps → rdDs ρ ps = some ds → Paired (DX O K H) vs ds
  | _, _, _, .nil, e => by cases e; exact .nil
  | _, _, _, .cons (l₁ := vs) (l₂ := ps) (b := p) h t, e => by
    unfold rdDs at e
    cases q : rdD ρ p with
    | none => rw [q] at e; cases e
    | some d =>
      rw [q] at e
      dsimp only at e
      cases q2 : rdDs ρ ps with
      | none => rw [q2] at e; cases e
      | some ds' =>
        rw [q2] at e
        cases e
        exact .cons (rd_ok R h.1 q) (rds_ok R t q2)
noncomputable def toDs (ρ : PEnv) : List PV → Option (List D × PEnv)
  | [] => some ([], ρ)
  | p :: r => match toD ρ p with
    | some (d, ρ1) => (match toDs ρ1 r with
      | some (ds, ρ2) => some (d :: ds, ρ2)
      | none => none)
    | none => none
theorem tos_ok : ∀ {vs : List V} {ps : List PV} {ds : List D} {O : Own} {ρ ρ' : PEnv}, Rl K B H0 O σ H ρ → Paired (fun v pv => PvOk K H0 O σ H ρ v pv ∧ Settled pv) vs ps → toDs ρ ps = some (ds, ρ') → ∃ O', Ev O H O' H ∧ Rl K B H0 O' σ H ρ' ∧ DVs O' K H vs ds
  | _, _, _, O, _, _, R, .nil, e => by cases e; exact ⟨O, .refl, R, .nil⟩
  | _, _, _, O, ρ, ρ', R, .cons (l₁ := vs) (l₂ := ps) (b := p) h t, e => by
    unfold toDs at e
    cases q : toD ρ p with
    | none => rw [q] at e; cases e
    | some r =>
      obtain ⟨d, ρ1⟩ := r
      rw [q] at e
      dsimp only at e
      cases q2 : toDs ρ1 ps with
      | none => rw [q2] at e; cases e
      | some r2 =>
        obtain ⟨ds', ρ2⟩ := r2
        rw [q2] at e
        cases e
        obtain ⟨O1, e1, R1, d1⟩ := to_ok R h.1 q
        have t1 : Paired (fun v pv => PvOk K H0 O1 σ H ρ1 v pv ∧ Settled pv) vs ps := Paired.mapP t fun v pv ⟨h1, h2⟩ => ⟨h1.keep h2 e1, h2⟩
        obtain ⟨O2, e2, R2, d2⟩ := tos_ok R1 t1 q2
        exact ⟨O2, e1.trans e2, R2, .cons (d1.ev e2) d2⟩
noncomputable abbrev FN := List D → Res RV
noncomputable def spP (K : PySem.W.Frag) (n : Nat) (F : FN) : Sp := fun vs H Q E => vs.length = n ∧ ∃ (B : Own) (ds : List D), (∀ a, B a → H a ≠ none) ∧ DVs B K H vs ds ∧ WR K E B H (Fin B K H Q) (F ds)
noncomputable def pTup (fa : FA) : FE := fun ρ => (fa ρ).bind fun a => (Res.ofO (toDs a.2 a.1)).bind fun b => if b.1.length ≤ 1000 then .ok (.fz (.tuple b.1), b.2) else .bad
noncomputable def pLst (fa : FA) : FE := fun ρ => (fa ρ).bind fun a => (Res.ofO (toDs a.2 a.1)).bind fun b => if b.1.length ≤ 1000 then .ok (.ow b.1, b.2) else .bad
theorem le1000 {n : Nat} (h : n ≤ 1000) : n ≤ sizeLine := Nat.le_trans h (by decide)
theorem eo_tup {ta : TA} {fa : FA} (ha : AO K E ta fa) : EO K E (tTup ta) (pTup fa) := by
  intro B H0 O σ H ρ Q R w
  refine ha B H0 O σ H ρ _ R (w.bind.imp fun a w1 O1 vs H1 e1 R1 p1 => ?_)
  obtain ⟨⟨ds, ρ2⟩, q, w2⟩ := w1.ofO
  obtain ⟨O2, e2, R2, dv⟩ := tos_ok R1 p1 q
  dsimp only at w2
  by_cases hn : ds.length ≤ 1000
  · rw [if_pos hn] at w2
    refine ⟨by rw [dv.length]; exact le1000 hn, Fin.newT dv R2.od (fin_of (rv := .fz (.tuple ds)) R2 fun O3 v H3 e3 R3 p3 => w2 O3 v H3 (e1.trans (e2.trans e3)) R3 p3)⟩
  · rw [if_neg hn] at w2
    exact w2.elim
theorem eo_lst {ta : TA} {fa : FA} (ha : AO K E ta fa) : EO K E (tLst ta) (pLst fa) := by
  intro B H0 O σ H ρ Q R w
  refine ha B H0 O σ H ρ _ R (w.bind.imp fun a w1 O1 vs H1 e1 R1 p1 => ?_)
  obtain ⟨⟨ds, ρ2⟩, q, w2⟩ := w1.ofO
  obtain ⟨O2, e2, R2, dv⟩ := tos_ok R1 p1 q
  dsimp only at w2
  by_cases hn : ds.length ≤ 1000
  · rw [if_pos hn] at w2
    refine ⟨by rw [dv.length]; exact le1000 hn, Fin.new dv (fin_of (rv := .ow ds) R2 fun O3 v H3 e3 R3 p3 => w2 O3 v H3 (e1.trans (e2.trans e3)) R3 p3)⟩
  · rw [if_neg hn] at w2
    exact w2.elim
noncomputable def CbP (K : PySem.W.Frag) (r : List V → Hp → VK → Prop) (f : List D → Option RV) : Prop := ∀ (O : Own) (H : Hp) (xs : List V) (ds : List D) (rv : RV) (Q : VK), NoneO O H → Paired (DX O K H) xs ds → f ds = some rv → Fin O K H Q rv → r xs H Q
noncomputable def pCB (f : List D → Option RV) (fa : FA) : FE := fun ρ => (fa ρ).bind fun a => (Res.ofO (rdDs a.2 a.1)).bind fun ds => (Res.ofO (f ds)).bind fun rv => .ok (rv.pv, a.2)
theorem eo_cb {r : List V → Hp → VK → Prop} {f : List D → Option RV} {ta : TA} {fa : FA} (hr : CbP K r f) (ha : AO K E ta fa) : EO K E (tCB r ta) (pCB f fa) := by
  intro B H0 O σ H ρ Q R w
  refine ha B H0 O σ H ρ _ R (w.bind.imp fun a w1 O1 vs H1 e1 R1 p1 => ?_)
  obtain ⟨ds, q, w2⟩ := w1.ofO
  obtain ⟨rv, qf, w2⟩ := w2.ofO
  exact hr O1 H1 vs ds rv Q R1.od (rds_ok R1 p1 q) qf (fin_of R1 fun O4 v H4 e4 R4 p4 => w2 O4 v H4 (e1.trans e4) R4 p4)
noncomputable def asI : D → Option Int
  | .int i => some i
  | _ => none
theorem asI_ok {O : Own} {H : Hp} {x : V} {d : D} {i : Int} (h : DX O K H x d) (e : asI d = some i) : x = .int i := by
  cases d <;> cases e
  cases h
  rfl
noncomputable abbrev FO := PEnv → Res (Option Int × PEnv)
noncomputable def TOO (K : PySem.W.Frag) (E : XK) (t : TO) (f : FO) : Prop :=
  ∀ (B : Own) (H0 : Hp) (O : Own) (σ : St) (H : Hp) (ρ : PEnv) (Q : Option Int → Hp → Prop), Rl K B H0 O σ H ρ → WR K E B H0 (fun r => ∀ O' H', Ev O H O' H' → Rl K B H0 O' σ H' r.2 → Q r.1 H') (f ρ) → t σ H Q
noncomputable def oNone : FO := fun ρ => .ok (none, ρ)
noncomputable def oSome (fa : FE) : FO := fun ρ => (fa ρ).bind fun a => (Res.ofO (rdD a.2 a.1)).bind fun d => (Res.ofO (asI d)).bind fun i => .ok (some i, a.2)
theorem too_none : TOO K E tNoPart oNone := fun B H0 O σ H ρ Q R w => w O H .refl R
theorem too_some {ta : TE} {fa : FE} (ha : EO K E ta fa) : TOO K E (tPart ta) (oSome fa) := by
  intro B H0 O σ H ρ Q R w
  refine ha B H0 O σ H ρ _ R (w.bind.imp fun a w1 O1 x H1 e1 R1 p1 => ?_)
  obtain ⟨d, q, w2⟩ := w1.ofO
  obtain ⟨i, qi, w2⟩ := w2.ofO
  exact ⟨i, asI_ok (rd_ok R1 p1 q) qi, w2 O1 H1 e1 R1⟩
noncomputable def SlP (K : PySem.W.Frag) (r : V → Option Int → Option Int → Hp → VK → Prop) (f : D → Option Int → Option Int → Option RV) : Prop := ∀ (O : Own) (H : Hp) (x : V) (lo hi : Option Int) (dx : D) (rv : RV) (Q : VK), NoneO O H → DX O K H x dx → f dx lo hi = some rv → Fin O K H Q rv → r x lo hi H Q
noncomputable def pSl (f : D → Option Int → Option Int → Option RV) (fa : FE) (fl fh : FO) : FE := fun ρ => (fa ρ).bind fun a => (fl a.2).bind fun l => (fh l.2).bind fun h => (Res.ofO (rdD h.2 (settle a.1))).bind fun dx => (Res.ofO (f dx l.1 h.1)).bind fun rv => .ok (rv.pv, h.2)
theorem eo_sl {r : V → Option Int → Option Int → Hp → VK → Prop} {f : D → Option Int → Option Int → Option RV} {ta : TE} {tl th : TO} {fa : FE} {fl fh : FO} (hr : SlP K r f) (ha : EO K E ta fa) (hl : TOO K E tl fl) (hh : TOO K E th fh) : EO K E (tSl r ta tl th) (pSl f fa fl fh) := by
  intro B H0 O σ H ρ Q R w
  refine ha B H0 O σ H ρ _ R (w.bind.imp fun a w1 O1 x H1 e1 R1 p1 => ?_)
  obtain ⟨O2, e2, R2, p2⟩ := settle_ok R1 p1
  refine hl B H0 O2 σ H1 a.2 _ R2 (w1.bind.imp fun l w2 O3 H3 e3 R3 => ?_)
  refine hh B H0 O3 σ H3 l.2 _ R3 (w2.bind.imp fun h w3 O4 H4 e4 R4 => ?_)
  obtain ⟨dx, qx, w3⟩ := w3.ofO
  obtain ⟨rv, qf, w3⟩ := w3.ofO
  exact hr O4 H4 x l.1 h.1 dx rv Q R4.od (rd_ok R4 (p2.keep (settled a.1) (e3.trans e4)) qx) qf (fin_of R4 fun O5 v H5 e5 R5 p5 => w3 O5 v H5 (e1.trans (e2.trans (e3.trans (e4.trans e5)))) R5 p5)
end
end L3
namespace L3
open PySem L2
theorem set_hit {α : Type} {l : List α} {i : Nat} {x y : α} (h : (l.set i x)[i]? = some y) : i < l.length := by
  rw [List.getElem?_set] at h
  rw [if_pos rfl] at h
  split at h
  · assumption
  · cases h
section
variable {K : PySem.W.Frag} {E : XK} {B O O' : Own} {H0 H H' : Hp} {σ : St} {ρ ρ' : PEnv} {v : V}
theorem Rl.mut {i : Nat} {ds ds' : List D} {a : Addr} {vs' : List V} (R : Rl K B H0 O σ H ρ) (hi : ρ[i]? = some (some (.ow ds))) (hv : σ[i]? = some (some (.ref a))) (hO : O a) (h0 : H0 a = none) (hd : DVs O K H vs' ds') :
    Rl K B H0 O σ (upd H a (.lst vs')) (ρ.set i (some (.ow ds'))) := by
  have ev : Ev O H O (upd H a (.lst vs')) := Ev.mut hO _
  refine ⟨fun b o e => by rw [upd_ne (ne_of_none e h0)]; exact R.same b o e, R.bo, R.bd, fun b hb => ?_, by rw [List.length_set]; exact R.len, fun j x hx => ?_, fun j k xs ys w hj hk hj2 hk2 => ?_⟩
  · by_cases e : b = a
    · rw [e, upd_same] at hb; cases hb
    · rw [upd_ne e] at hb; exact R.od b hb
  · rcases set_get hx with ⟨rfl, ee⟩ | ⟨hne, hx⟩
    · cases ee
      exact ⟨_, hv, a, vs', rfl, hO, h0, upd_same, hd.ev ev⟩
    · obtain ⟨u, m1, m2⟩ := R.slot j x hx
      refine ⟨u, m1, ?_⟩
      cases x with
      | fz d => exact DV.ev ev m2
      | pl i => exact m2
      | ow xs =>
        obtain ⟨b, us, rfl, n1, n2, n3, n4⟩ := m2
        have hba : b ≠ a := fun z => hne (R.one j i xs ds (.ref a) hx hi (by rw [m1, z]) hv)
        exact ⟨b, us, rfl, n1, n2, by rw [upd_ne hba]; exact n3, n4.ev ev⟩
  · have own : ∀ {j : Nat} {xs : List D}, (ρ.set i (some (.ow ds')))[j]? = some (some (.ow xs)) → ∃ ys, ρ[j]? = some (some (.ow ys)) := fun {j xs} h => by
      rcases set_get h with ⟨rfl, _⟩ | ⟨_, h⟩
      · exact ⟨_, hi⟩
      · exact ⟨_, h⟩
    obtain ⟨xs', hj'⟩ := own hj
    obtain ⟨ys', hk'⟩ := own hk
    exact R.one j k xs' ys' w hj' hk' hj2 hk2
theorem lt1e6 {n : Nat} (h : n < 1000000) : n < sizeLine := Nat.lt_of_lt_of_le h (by decide)
noncomputable def asOw : Option (Option PV) → Option (List D)
  | some (some (.ow ds)) => some ds
  | _ => none
theorem asOw_ok {o : Option (Option PV)} {ds : List D} (h : asOw o = some ds) : o = some (some (.ow ds)) := by
  unfold asOw at h
  split at h
  · cases h; rfl
  · cases h
noncomputable def pApp (i : Nat) (fe : FE) : FE := fun ρ => (Res.ofO (asOw ρ[i]?)).bind fun _ => (fe ρ).bind fun a => (Res.ofO (toD a.2 a.1)).bind fun b => (Res.ofO (asOw b.2[i]?)).bind fun ds =>
  if ds.length < 1000000 then .ok (.fz .none, b.2.set i (some (.ow (ds ++ [b.1])))) else .bad
theorem eo_app {i : Nat} {te : TE} {fe : FE} (he : EO K E te fe) : EO K E (tBM K "list" rAppend (tVar i) (tCons te tNil)) (pApp i fe) := by
  intro B H0 O σ H ρ Q R w
  obtain ⟨ds0, q0, w⟩ := w.ofO
  obtain ⟨v, g1, a, vs, rfl, g2, g3, g4, g5⟩ := R.slot i _ (asOw_ok q0)
  refine ⟨_, g1, .inl ⟨rfl, _, SqL.of g4⟩, ?_⟩
  refine he B H0 O σ H ρ _ R (w.bind.imp fun b w1 O1 y H1 e1 R1 p1 => ?_)
  obtain ⟨⟨d, ρ2⟩, qd, w1⟩ := w1.ofO
  obtain ⟨O2, e2, R2, dv⟩ := to_ok R1 p1 qd
  obtain ⟨ds, qo, w1⟩ := w1.ofO
  have qo := asOw_ok qo
  obtain ⟨v', k1, a', vs', e', k2, k3, k4, k5⟩ := R2.slot i _ qo
  subst e'
  rw [g1] at k1
  cases k1
  dsimp only at w1
  by_cases hl : ds.length < 1000000
  · rw [if_pos hl] at w1
    refine ⟨a, vs', y, rfl, rfl, k4, lt1e6 (by rw [k5.length]; exact hl), ?_⟩
    exact w1 O2 .non _ (e1.trans (e2.trans (Ev.mut k2 _))) (R2.mut qo g1 k2 k3 (k5.append (.cons dv .nil))) .non
  · rw [if_neg hl] at w1
    exact w1.elim
noncomputable abbrev FG := PV → PEnv → Res PEnv
noncomputable abbrev FGs := List D → PEnv → Res PEnv
noncomputable def GO (K : PySem.W.Frag) (E : XK) (g : TG) (f : FG) : Prop :=
  ∀ (B : Own) (H0 : Hp) (O : Own) (σ : St) (H : Hp) (ρ : PEnv) (v : V) (pv : PV) (Q : St → Hp → Prop), Rl K B H0 O σ H ρ → PvOk K H0 O σ H ρ v pv → WR K E B H0 (fun ρ' => ∀ O' σ' H', Ev O H O' H' → Rl K B H0 O' σ' H' ρ' → Q σ' H') (f pv ρ) → g v σ H Q
noncomputable def GsO (K : PySem.W.Frag) (E : XK) (g : TGs) (f : FGs) : Prop :=
  ∀ (B : Own) (H0 : Hp) (O : Own) (σ : St) (H : Hp) (ρ : PEnv) (vs : List V) (ds : List D) (Q : St → Hp → Prop), Rl K B H0 O σ H ρ → DVs O K H vs ds → WR K E B H0 (fun ρ' => ∀ O' σ' H', Ev O H O' H' → Rl K B H0 O' σ' H' ρ' → Q σ' H') (f ds ρ) → g vs σ H Q
theorem Rl.setF {i : Nat} {d : D} (R : Rl K B H0 O σ H ρ) (h : DV O K H v d) : Rl K B H0 O (σ.set i (some v)) H (ρ.set i (some (.fz d))) := by
  refine ⟨R.same, R.bo, R.bd, R.od, by rw [List.length_set, List.length_set]; exact R.len, fun j x hx => ?_, fun j k xs ys w hj hk hj2 hk2 => ?_⟩
  · rcases set_get hx with ⟨rfl, e⟩ | ⟨hne, hx⟩
    · cases e
      have := set_hit hx
      exact ⟨v, by rw [List.getElem?_set, if_pos rfl, if_pos (by rw [R.len]; exact this)], h⟩
    · obtain ⟨u, m1, m2⟩ := R.slot j x hx
      exact ⟨u, by rw [List.getElem?_set, if_neg (fun z => hne z.symm)]; exact m1, m2⟩
  · rcases set_get hj with ⟨rfl, ee⟩ | ⟨n1, hj⟩
    · cases ee
    · rcases set_get hk with ⟨rfl, ee⟩ | ⟨n2, hk⟩
      · cases ee
      · rw [List.getElem?_set, if_neg (fun z => n1 z.symm)] at hj2
        rw [List.getElem?_set, if_neg (fun z => n2 z.symm)] at hk2
        exact R.one j k xs ys w hj hk hj2 hk2
theorem Rl.setO {i : Nat} {ds : List D} (R : Rl K B H0 O σ H ρ) (h : PvOk K H0 O σ H ρ v (.ow ds)) : Rl K B H0 O (σ.set i (some v)) H (ρ.set i (some (.ow ds))) := by
  obtain ⟨a, vs, rfl, h1, h2, h3, h4, h5⟩ := h
  refine ⟨R.same, R.bo, R.bd, R.od, by rw [List.length_set, List.length_set]; exact R.len, fun j x hx => ?_, fun j k xs ys w hj hk hj2 hk2 => ?_⟩
  · rcases set_get hx with ⟨rfl, e⟩ | ⟨hne, hx⟩
    · cases e
      have := set_hit hx
      exact ⟨.ref a, by rw [List.getElem?_set, if_pos rfl, if_pos (by rw [R.len]; exact this)], a, vs, rfl, h1, h2, h3, h4⟩
    · obtain ⟨u, m1, m2⟩ := R.slot j x hx
      exact ⟨u, by rw [List.getElem?_set, if_neg (fun z => hne z.symm)]; exact m1, m2⟩
  · rcases set_get hj with ⟨rfl, ee⟩ | ⟨n1, hjj⟩
    · rcases set_get hk with ⟨rfl, ee2⟩ | ⟨n2, hk⟩
      · rfl
      · rw [List.getElem?_set, if_neg (fun z => n2 z.symm)] at hk2
        rcases set_get hj2 with ⟨_, e⟩ | ⟨z, _⟩
        · cases e; exact absurd hk2 (h5 k ys hk)
        · exact absurd rfl z
    · have hj' := hjj
      rw [List.getElem?_set, if_neg (fun z => n1 z.symm)] at hj2
      rcases set_get hk with ⟨rfl, ee⟩ | ⟨n2, hk⟩
      · rcases set_get hk2 with ⟨_, e⟩ | ⟨z, _⟩
        · cases e; exact absurd hj2 (h5 j xs hjj)
        · exact absurd rfl z
      · rw [List.getElem?_set, if_neg (fun z => n2 z.symm)] at hk2
        exact R.one j k xs ys w hjj hk hj2 hk2
noncomputable def gN (i : Nat) : FG := fun pv ρ => match pv with
  | .ow ds => .ok (ρ.set i (some (.ow ds)))
  | .fz d => .ok (ρ.set i (some (.fz d)))
  | .pl j => (Res.ofO (toD ρ (.pl j))).bind fun b => .ok (b.2.set i (some (.fz b.1)))
theorem go_name {i : Nat} : GO K E (gName i) (gN i) := by
  intro B H0 O σ H ρ v pv Q R p w
  cases pv with
  | ow ds => exact w O _ H .refl (R.setO p)
  | fz d => exact w O _ H .refl (R.setF p)
  | pl j =>
    obtain ⟨⟨d, ρ2⟩, q, w⟩ := WR.ofO (show WR K E B H0 _ ((Res.ofO (toD ρ (.pl j))).bind fun b => .ok (b.2.set i (some (.fz b.1)))) from w)
    obtain ⟨O2, e2, R2, dv⟩ := to_ok R p q
    exact w O2 _ H e2 (R2.setF dv)
noncomputable def gsN : FGs := fun ds ρ => match ds with
  | [] => .ok ρ
  | _ => .bad
noncomputable def gsC (f : FG) (g : FGs) : FGs := fun ds ρ => match ds with
  | [] => .bad
  | d :: r => (f (.fz d) ρ).bind fun ρ1 => g r ρ1
theorem gs_nil : GsO K E gNil gsN := by
  intro B H0 O σ H ρ vs ds Q R dv w
  cases dv with
  | nil => exact ⟨rfl, w O σ H .refl R⟩
  | cons _ _ => exact w.elim
theorem gs_cons {t : TG} {u : TGs} {f : FG} {g : FGs} (h1 : GO K E t f) (h2 : GsO K E u g) : GsO K E (gCons t u) (gsC f g) := by
  intro B H0 O σ H ρ vs ds Q R dv w
  cases dv with
  | nil => exact w.elim
  | cons hd tl =>
    rename_i v vs d ds
    refine ⟨_, _, rfl, h1 B H0 O σ H ρ _ (.fz d) _ R hd (WR.imp (WR.bind w) fun ρ1 w1 O1 σ1 H1 e1 R1 => ?_)⟩
    exact h2 B H0 O1 σ1 H1 ρ1 _ _ Q R1 (tl.ev e1) (w1.imp fun ρ2 q O2 σ2 H2 e2 R2 => q O2 σ2 H2 (e1.trans e2) R2)
noncomputable def asT : D → Option (List D)
  | .tuple ds => some ds
  | _ => none
theorem asT_ok {O : Own} {H : Hp} {x : V} {d : D} {ds : List D} (h : DX O K H x d) (e : asT d = some ds) : ∃ a xs, x = .ref a ∧ SqTO O K H a xs ∧ DVs O K H xs ds := by
  cases d <;> cases e
  cases h with
  | tup h hs => exact ⟨_, _, rfl, h, hs⟩
noncomputable def gT (n : Nat) (f : FGs) : FG := fun pv ρ => (Res.ofO (rdD ρ pv)).bind fun d => (Res.ofO (asT d)).bind fun ds => if ds.length = n then f ds ρ else .bad
theorem go_tup {n : Nat} {t : TGs} {f : FGs} (h : GsO K E t f) : GO K E (gTup K n t) (gT n f) := by
  intro B H0 O σ H ρ v pv Q R p w
  obtain ⟨d, qd, w⟩ := w.ofO
  obtain ⟨ds, qs, w⟩ := w.ofO
  obtain ⟨a, xs, rfl, hq, hx⟩ := asT_ok (rd_ok R p qd) qs
  by_cases hn : ds.length = n
  · rw [if_pos hn] at w
    exact ⟨a, xs, rfl, hq.1, hx.length.trans hn, h B H0 O σ H ρ xs ds Q R hx w⟩
  · rw [if_neg hn] at w
    exact w.elim
inductive Fl where
  | nx (ρ : PEnv)
  | rt (rv : RV)
  | bk (ρ : PEnv)
  | ct (ρ : PEnv)
noncomputable abbrev FS := PEnv → Res Fl
noncomputable def FlOk (K : PySem.W.Frag) (B : Own) (H0 : Hp) (O : Own) (H : Hp) (D : Ends) : Fl → Prop
  | .nx ρ' => ∀ O' σ' H', Ev O H O' H' → Rl K B H0 O' σ' H' ρ' → D.nx σ' H'
  | .bk ρ' => ∀ O' σ' H', Ev O H O' H' → Rl K B H0 O' σ' H' ρ' → D.bk σ' H'
  | .ct ρ' => ∀ O' σ' H', Ev O H O' H' → Rl K B H0 O' σ' H' ρ' → D.ct σ' H'
  | .rt rv => Fin B K H0 D.rt rv
noncomputable def SO (K : PySem.W.Frag) (E : XK) (t : TS) (g : FS) : Prop :=
  ∀ (B : Own) (H0 : Hp) (O : Own) (σ : St) (H : Hp) (ρ : PEnv) (D : Ends), Rl K B H0 O σ H ρ → WR K E B H0 (FlOk K B H0 O H D) (g ρ) → t D σ H
theorem FlOk.ev {D : Ends} {fl : Fl} {O1 : Own} {H1 : Hp} (e : Ev O H O1 H1) (h : FlOk K B H0 O H D fl) : FlOk K B H0 O1 H1 D fl := by
  cases fl with
  | nx ρ' => exact fun O' σ' H' e' R' => h O' σ' H' (e.trans e') R'
  | bk ρ' => exact fun O' σ' H' e' R' => h O' σ' H' (e.trans e') R'
  | ct ρ' => exact fun O' σ' H' e' R' => h O' σ' H' (e.trans e') R'
  | rt rv => exact h
noncomputable def sNext : FS := fun ρ => .ok (.nx ρ)
noncomputable def sSeq (f g : FS) : FS := fun ρ => (f ρ).bind fun fl => match fl with
  | .nx ρ1 => g ρ1
  | fl => .ok fl
noncomputable def sDrop (f : FE) : FS := fun ρ => (f ρ).bind fun a => .ok (.nx a.2)
noncomputable def sAsg (f : FE) (g : FG) : FS := fun ρ => (f ρ).bind fun a => (g a.1 a.2).bind fun ρ1 => .ok (.nx ρ1)
noncomputable def sIf (c : FT) (f g : FS) : FS := fun ρ => (c ρ).bind fun a => if a.1 = true then f a.2 else g a.2
noncomputable def retV (ρ : PEnv) : PV → Option RV
  | .fz d => some (.fz d)
  | .ow ds => some (.ow ds)
  | .pl i => match ρ[i]? with
    | some (some (.fz d)) => some (.fz d)
    | some (some (.ow ds)) => some (.ow ds)
    | _ => none
noncomputable def sRet (f : FE) : FS := fun ρ => (f ρ).bind fun a => (Res.ofO (retV a.2 a.1)).bind fun rv => .ok (.rt rv)
theorem so_next : SO K E tNext sNext := fun B H0 O σ H ρ D R w => w O σ H .refl R
theorem so_seq {t u : TS} {f g : FS} (h1 : SO K E t f) (h2 : SO K E u g) : SO K E (tSeq t u) (sSeq f g) := by
  intro B H0 O σ H ρ D R w
  refine h1 B H0 O σ H ρ { D with nx := u D } R (WR.imp (WR.bind w) fun fl w1 => ?_)
  cases fl with
  | nx ρ1 => exact fun O1 σ1 H1 e1 R1 => h2 B H0 O1 σ1 H1 ρ1 D R1 (WR.imp w1 fun fl q => q.ev e1)
  | rt rv => exact w1
  | bk ρ1 => exact w1
  | ct ρ1 => exact w1
theorem so_drop {t : TE} {f : FE} (h : EO K E t f) : SO K E (tDrop t) (sDrop f) := by
  intro B H0 O σ H ρ D R w
  exact h B H0 O σ H ρ _ R (w.bind.imp fun a w1 O1 x H1 e1 R1 p1 => w1 O1 σ H1 e1 R1)
theorem so_asg {t : TE} {f : FE} {g : TG} {fg : FG} (h : EO K E t f) (hg : GO K E g fg) : SO K E (tAsg t g) (sAsg f fg) := by
  intro B H0 O σ H ρ D R w
  refine h B H0 O σ H ρ _ R (w.bind.imp fun a w1 O1 x H1 e1 R1 p1 => ?_)
  exact hg B H0 O1 σ H1 a.2 x a.1 _ R1 p1 (w1.bind.imp fun ρ1 w2 O2 σ2 H2 e2 R2 => w2 O2 σ2 H2 (e1.trans e2) R2)
theorem so_if {c : TT} {fc : FT} {t u : TS} {f g : FS} (hc : TTO K E c fc) (h1 : SO K E t f) (h2 : SO K E u g) : SO K E (tIfS c t u) (sIf fc f g) := by
  intro B H0 O σ H ρ D R w
  refine hc B H0 O σ H ρ _ R (w.bind.imp fun a w1 O1 H1 e1 R1 => ?_)
  obtain ⟨b, ρ1⟩ := a
  cases b with
  | true => exact h1 B H0 O1 σ H1 ρ1 D R1 (WR.imp w1 fun fl q => q.ev e1)
  | false => exact h2 B H0 O1 σ H1 ρ1 D R1 (WR.imp w1 fun fl q => q.ev e1)
theorem ret_ok {Q : VK} {pv : PV} {rv : RV} (R : Rl K B H0 O σ H ρ) (p : PvOk K H0 O σ H ρ v pv) (e : retV ρ pv = some rv) (w : Fin B K H0 Q rv) : Q v H := by
  have ow : ∀ {a : Addr} {vs : List V} {ds : List D}, O a → H0 a = none → H a = some (.lst vs) → DVs O K H vs ds → Fin B K H0 Q (.ow ds) → Q (.ref a) H := fun {a vs ds} h1 h2 h3 h4 w =>
    w a vs H R.same h2 h3 (h4.ev (Ev.sub fun b z => z.elim (R.bo b) fun e => by rw [e]; exact h1))
  have fz : ∀ {d : D}, DV O K H v d → Fin B K H0 Q (.fz d) → Q v H := fun {d} h w => w v H R.same (h.ev (Ev.sub R.bo))
  cases pv with
  | fz d => cases e; exact fz p w
  | ow ds =>
    cases e
    obtain ⟨a, vs, rfl, h1, h2, h3, h4, h5⟩ := p
    exact ow h1 h2 h3 h4 w
  | pl i =>
    have p' : σ[i]? = some (some v) := p
    unfold retV at e
    dsimp only at e
    cases q : ρ[i]? with
    | none => rw [q] at e; cases e
    | some o =>
      cases o with
      | none => rw [q] at e; cases e
      | some x =>
        obtain ⟨u, g1, g2⟩ := R.slot i x q
        rw [p'] at g1
        cases g1
        rw [q] at e
        cases x with
        | fz d => cases e; exact fz g2 w
        | ow ds =>
          cases e
          obtain ⟨a, vs, rfl, h1, h2, h3, h4⟩ := g2
          exact ow h1 h2 h3 h4 w
        | pl j => exact g2.elim
theorem so_ret {t : TE} {f : FE} (h : EO K E t f) : SO K E (tRet t) (sRet f) := by
  intro B H0 O σ H ρ D R w
  refine h B H0 O σ H ρ _ R (w.bind.imp fun a w1 O1 x H1 e1 R1 p1 => ?_)
  obtain ⟨rv, q, w1⟩ := w1.ofO
  exact ret_ok R1 p1 q w1
noncomputable def ItOk (K : PySem.W.Frag) (J : It) (O : Own) (H : Hp) (ds : List D) : Prop := ∀ O' H', Ev O H O' H' → NoneO O' H' →
  (∀ i, i < ds.length → J.go i H' ∧ ∀ x H'', J.yld i H' x H'' → Same H' H'' ∧ ∃ d, ds[i]? = some d ∧ DV O' K H'' x d) ∧ J.stop ds.length H'
noncomputable abbrev FI := PEnv → Res (List D × PEnv)
noncomputable def IO (K : PySem.W.Frag) (E : XK) (wi : TI) (fi : FI) : Prop :=
  ∀ (B : Own) (H0 : Hp) (O : Own) (σ : St) (H : Hp) (ρ : PEnv) (R' : It → Hp → Prop), Rl K B H0 O σ H ρ → WR K E B H0 (fun r => ∀ O' J H', Ev O H O' H' → Rl K B H0 O' σ H' r.2 → ItOk K J O' H' r.1 → R' J H') (fi ρ) → wi σ H R'
noncomputable def forP (gt : FG) (b : FS) : List D → FS
  | [], ρ => .ok (.nx ρ)
  | d :: r, ρ => (gt (.fz d) ρ).bind fun ρ1 => (b ρ1).bind fun fl => match fl with
    | .nx ρ2 => forP gt b r ρ2
    | .ct ρ2 => forP gt b r ρ2
    | .bk ρ2 => .ok (.nx ρ2)
    | .rt rv => .ok (.rt rv)
noncomputable def sFor (fi : FI) (gt : FG) (b : FS) : FS := fun ρ => (fi ρ).bind fun a => forP gt b a.1 a.2
theorem so_for {wi : TI} {fi : FI} {g : TG} {gt : FG} {tb : TS} {b : FS} (hi : IO K E wi fi) (hg : GO K E g gt) (hb : SO K E tb b) : SO K E (tFor wi g tb) (sFor fi gt b) := by
  intro B H0 O σ H ρ D R w
  refine hi B H0 O σ H ρ _ R (w.bind.imp fun a w1 O1 J H1 e1 R1 it => ?_)
  obtain ⟨ds, ρ1⟩ := a
  dsimp only at w1 it R1
  refine ⟨fun i m σ' H' => m = ds.length - i ∧ i ≤ ds.length ∧ ∃ O2 ρ2, Ev O1 H1 O2 H' ∧ Rl K B H0 O2 σ' H' ρ2 ∧ WR K E B H0 (FlOk K B H0 O H D) (forP gt b (ds.drop i) ρ2), ⟨_, rfl, Nat.zero_le _, O1, ρ1, .refl, R1, w1⟩, ?_⟩
  rintro i m σ2 H2 ⟨rfl, hi, O2, ρ2, e2, R2, w2⟩
  obtain ⟨go, stop⟩ := it O2 H2 e2 R2.od
  by_cases hlt : i < ds.length
  · obtain ⟨g1, g2⟩ := go i hlt
    refine .inr ⟨g1, fun σ' H' => i + 1 ≤ ds.length ∧ ∃ O2 ρ2, Ev O1 H1 O2 H' ∧ Rl K B H0 O2 σ' H' ρ2 ∧ WR K E B H0 (FlOk K B H0 O H D) (forP gt b (ds.drop (i + 1)) ρ2), fun σ' H' ⟨h1, h2⟩ => ⟨ds.length - (i + 1), by omega, rfl, h1, h2⟩, fun x H3 y => ?_⟩
    obtain ⟨s3, d, hd, dv⟩ := g2 x H3 y
    have ed : ds.drop i = d :: ds.drop (i + 1) := by
      obtain ⟨_, q⟩ := List.getElem?_eq_some_iff.mp hd
      rw [List.drop_eq_getElem_cons hlt, q]
    rw [ed] at w2
    have e3 : Ev O2 H2 O2 H3 := Ev.grow s3
    refine hg B H0 O2 σ2 H3 ρ2 x (.fz d) _ (R2.grow s3) dv (WR.imp (WR.bind w2) fun ρ3 w3 O4 σ4 H4 e4 R4 => ?_)
    have e4' : Ev O1 H1 O4 H4 := e2.trans (e3.trans e4)
    refine hb B H0 O4 σ4 H4 ρ3 _ R4 (WR.imp (WR.bind w3) fun fl w4 => ?_)
    cases fl with
    | nx ρ5 => exact fun O5 σ5 H5 e5 R5 => ⟨hlt, O5, ρ5, e4'.trans e5, R5, w4⟩
    | ct ρ5 => exact fun O5 σ5 H5 e5 R5 => ⟨hlt, O5, ρ5, e4'.trans e5, R5, w4⟩
    | bk ρ5 => exact fun O5 σ5 H5 e5 R5 => w4 O5 σ5 H5 (e1.trans (e4'.trans e5)) R5
    | rt rv => exact w4
  · have e : i = ds.length := by omega
    subst e
    rw [List.drop_eq_nil_of_le (Nat.le_refl _)] at w2
    exact .inl ⟨stop, w2 O2 σ2 H2 (e1.trans e2) R2⟩
noncomputable def asSeq : D → Option (List D)
  | .tuple ds => some ds
  | .list ds => some ds
  | _ => none
noncomputable def iSeqT (K : PySem.W.Frag) (tl : TE) : TI := fun σ H R => tl σ H fun x H1 => ∃ a, x = .ref a ∧ (((∃ xs, SqL K H1 a xs) ∧ R (Itl K a) H1) ∨ ((∃ xs, SqT K H1 a xs) ∧ R (Itt K a) H1))
theorem pi_seq {X : Cx} {tg l : Expr} {tl : TE} (hl : PE X l tl) : PI X tg l (iSeqT X.K tl) := by
  intro pins s σ H R I h
  refine thn (hl pins s σ H _ I h) fun v s1 ⟨x, H1, I1, r1, q1⟩ => ?_
  obtain ⟨a, e, q⟩ := q1
  subst e
  cases r1
  rcases q with ⟨⟨xs, hq⟩, q⟩ | ⟨⟨xs, hq⟩, q⟩
  · obtain ⟨its, rv, p, hz⟩ := I1.list hq
    refine PySem.wpAny_pyIter_list p.isList ?_
    refine ⟨s1.heap.objs.size, [s1.heap.objs.size], _, _, H1, rfl, I1.kept (t' := s1.toks) fun b o e => Heap.get?_push_of_some _ e, turn_list a _, ⟨_, Heap.get?_push_size _ rfl, rfl, rfl⟩, fun b hb => ?_, q⟩
    have e : b = s1.heap.objs.size := by simpa using hb
    subst e
    exact I1.fpOk (Nat.le_refl _) (I1.hok.fresh (Nat.le_refl _))
  · obtain ⟨its, rv, p, hz⟩ := I1.tuple hq
    refine PySem.wpAny_pyIter_tuple (show s1.heap.IsTuple a its.toArray from p) ?_
    refine ⟨s1.heap.objs.size, [s1.heap.objs.size], _, _, H1, rfl, I1.kept (t' := s1.toks) fun b o e => Heap.get?_push_of_some _ e, turn_tuple a _, ⟨_, Heap.get?_push_size _ rfl, rfl, rfl⟩, fun b hb => ?_, q⟩
    have e : b = s1.heap.objs.size := by simpa using hb
    subst e
    exact I1.fpOk (Nat.le_refl _) (I1.hok.fresh (Nat.le_refl _))
theorem it_list {a : Addr} {xs : List V} {ds : List D} (h : SqLO O K H a xs) (hd : DVs O K H xs ds) : ItOk K (Itl K a) O H ds := by
  intro O' H' e n
  have h' := h.ev e
  have hd' := hd.ev e
  refine ⟨fun i hi => ?_, ⟨xs, h'.1.sq, by rw [hd.length]; exact Nat.le_refl _⟩⟩
  obtain ⟨x, hx, _⟩ := hd'.get (List.getElem?_eq_getElem hi)
  refine ⟨⟨xs, x, h'.1.sq, hx⟩, ?_⟩
  rintro y H'' ⟨rfl, hy⟩
  obtain ⟨d, q1, q2⟩ := hd'.getV (hy xs h'.1.sq)
  exact ⟨Same.refl _, d, q1, q2⟩
theorem it_tup {a : Addr} {xs : List V} {ds : List D} (h : SqTO O K H a xs) (hd : DVs O K H xs ds) : ItOk K (Itt K a) O H ds := by
  intro O' H' e n
  have h' := h.ev e
  have hd' := hd.ev e
  refine ⟨fun i hi => ?_, ⟨xs, h'.1, by rw [hd.length]; exact Nat.le_refl _⟩⟩
  obtain ⟨x, hx, _⟩ := hd'.get (List.getElem?_eq_getElem hi)
  refine ⟨⟨xs, x, h'.1, hx⟩, ?_⟩
  rintro y H'' ⟨rfl, hy⟩
  obtain ⟨d, q1, q2⟩ := hd'.getV (hy xs h'.1)
  exact ⟨Same.refl _, d, q1, q2⟩
noncomputable def iSeq (fe : FE) : FI := fun ρ => (fe ρ).bind fun a => (Res.ofO (toD a.2 a.1)).bind fun b => (Res.ofO (asSeq b.1)).bind fun ds => .ok (ds, b.2)
theorem io_seq {tl : TE} {fe : FE} (h : EO K E tl fe) : IO K E (iSeqT K tl) (iSeq fe) := by
  intro B H0 O σ H ρ R' R w
  refine h B H0 O σ H ρ _ R (w.bind.imp fun a w1 O1 x H1 e1 R1 p1 => ?_)
  obtain ⟨⟨d, ρ2⟩, q, w1⟩ := w1.ofO
  obtain ⟨O2, e2, R2, dv⟩ := to_ok R1 p1 q
  obtain ⟨ds, qs, w1⟩ := w1.ofO
  dsimp only at qs
  cases dv with
  | tup h hs => cases qs; exact ⟨_, rfl, .inr ⟨⟨_, h.1⟩, w1 O2 _ H1 (e1.trans e2) R2 (it_tup h hs)⟩⟩
  | lst h hs => cases qs; exact ⟨_, rfl, .inl ⟨⟨_, h.1.sq⟩, w1 O2 _ H1 (e1.trans e2) R2 (it_list h hs)⟩⟩
  | _ => cases qs
noncomputable def intsFrom (lo : Int) (n : Nat) : List D := (List.range n).map fun (k : Nat) => .int (lo + (k : Int))
theorem it_range {lo : Int} {n : Nat} : ItOk K (Itr lo n) O H (intsFrom lo n) := by
  intro O' H' e nn
  have hl : (intsFrom lo n).length = n := by unfold intsFrom; rw [List.length_map, List.length_range]
  refine ⟨fun i hi => ?_, by show n ≤ _; rw [hl]; exact Nat.le_refl _⟩
  rw [hl] at hi
  refine ⟨hi, ?_⟩
  rintro x H'' ⟨rfl, rfl⟩
  exact ⟨Same.refl _, .int (lo + i), by unfold intsFrom; rw [List.getElem?_map, List.getElem?_range hi]; rfl, .int _⟩
noncomputable def small62 (i : Int) : Prop := -(2 ^ 62) ≤ i ∧ i < 2 ^ 62
noncomputable instance (i : Int) : Decidable (small62 i) := by unfold small62; infer_instance
noncomputable def rng1 : List D → Option (List D)
  | [.int j] => if small62 j then some (intsFrom 0 j.toNat) else none
  | _ => none
noncomputable def iRng (f : List D → Option (List D)) (fa : FA) : FI := fun ρ => (fa ρ).bind fun a => (Res.ofO (rdDs a.2 a.1)).bind fun ds => (Res.ofO (f ds)).bind fun xs => .ok (xs, a.2)
theorem io_rng1 {ta : TA} {fa : FA} (h : AO K E ta fa) : IO K E (iRng1 ta) (iRng rng1 fa) := by
  intro B H0 O σ H ρ R' R w
  refine h B H0 O σ H ρ _ R (w.bind.imp fun a w1 O1 vs H1 e1 R1 p1 => ?_)
  obtain ⟨ds, q, w1⟩ := w1.ofO
  obtain ⟨xs, qx, w1⟩ := w1.ofO
  have px := rds_ok R1 p1 q
  unfold rng1 at qx
  split at qx
  · rename_i j
    split at qx
    · rename_i hj
      cases qx
      cases px with
      | cons h1 h2 =>
        cases h2
        cases h1
        exact ⟨j, rfl, hj.1, hj.2, w1 O1 _ H1 e1 R1 it_range⟩
    · cases qx
  · cases qx
end
end L3
namespace L3
open PySem L2
section
variable {K : PySem.W.Frag} {E : XK} {B O O' : Own} {H0 H H' : Hp} {σ : St} {ρ ρ' : PEnv} {v : V}
noncomputable def keepF : Option PV → Option PV
  | some (.fz d) => some (.fz d)
  | _ => none
noncomputable def forget (ρ : PEnv) : PEnv := ρ.map keepF
theorem forget_get {i : Nat} {x : PV} (h : (forget ρ)[i]? = some (some x)) : ∃ d, x = .fz d ∧ ρ[i]? = some (some (.fz d)) := by
  unfold forget at h
  rw [List.getElem?_map] at h
  cases q : ρ[i]? with
  | none => rw [q] at h; cases h
  | some o =>
    rw [q] at h
    have h' : keepF o = some x := Option.some.inj h
    unfold keepF at h'
    split at h'
    · cases h'; exact ⟨_, rfl, rfl⟩
    · cases h'
noncomputable def captL (ρ : PEnv) : List Nat → Option (List D × PEnv)
  | [] => some ([], ρ)
  | j :: r => match toD ρ (.pl j) with
    | some (d, ρ1) => (match captL ρ1 r with
      | some (c, ρ2) => some (d :: c, ρ2)
      | none => none)
    | none => none
theorem slot_some {i : Nat} {d : D} {ρ' : PEnv} (R : Rl K B H0 O σ H ρ) (h : toD ρ (.pl i) = some (d, ρ')) : ∃ v, σ[i]? = some (some v) := by
  have e' : toS ρ i ρ[i]? = some (d, ρ') := h
  cases q : ρ[i]? with
  | none => rw [q] at e'; cases e'
  | some o =>
    cases o with
    | none => rw [q] at e'; cases e'
    | some x => obtain ⟨v, g1, _⟩ := R.slot i x q; exact ⟨v, g1⟩
theorem captL_ok : ∀ {fv : List Nat} {ds : List D} {O : Own} {ρ ρ' : PEnv}, Rl K B H0 O σ H ρ → captL ρ fv = some (ds, ρ') → ∃ O' vs, Ev O H O' H ∧ Rl K B H0 O' σ H ρ' ∧ DVs O' K H vs ds ∧ fv.map (fun j => (σ[j]?).join) = vs.map some
  | [], _, O, _, _, R, e => by cases e; exact ⟨O, [], .refl, R, .nil, rfl⟩
  | j :: r, _, O, ρ, ρ', R, e => by
    unfold captL at e
    cases q : toD ρ (.pl j) with
    | none => rw [q] at e; cases e
    | some p =>
      obtain ⟨d, ρ1⟩ := p
      rw [q] at e
      dsimp only at e
      cases q2 : captL ρ1 r with
      | none => rw [q2] at e; cases e
      | some p2 =>
        obtain ⟨c, ρ2⟩ := p2
        rw [q2] at e
        cases e
        obtain ⟨v, hv⟩ := slot_some R q
        obtain ⟨O1, e1, R1, d1⟩ := to_ok (v := v) (pv := .pl j) R hv q
        obtain ⟨O2, vs, e2, R2, d2, h2⟩ := captL_ok R1 q2
        exact ⟨O2, v :: vs, e1.trans e2, R2, .cons (d1.ev e2) d2, by rw [List.map_cons, List.map_cons, h2, hv]; rfl⟩
noncomputable def compP (gt : FG) (ft : FT) (fe : FE) : List D → PEnv → List D → Res (List D)
  | [], _, acc => .ok acc
  | d :: r, ρ, acc => (gt (.fz d) ρ).bind fun ρ1 => (ft ρ1).bind fun b => if b.1 = true then (fe b.2).bind fun a => (Res.ofO (toD a.2 a.1)).bind fun x =>
      if acc.length < 1000000 then compP gt ft fe r (forget x.2) (acc ++ [x.1]) else .bad
    else compP gt ft fe r (forget b.2) acc
noncomputable def noEr {α : Type} : Res α → Res α
  | .er _ => .bad
  | r => r
noncomputable def pComp (n : Nat) (fv : List Nat) (fi : FI) (gt : FG) (ft : FT) (fe : FE) : FE := fun ρ => (fi ρ).bind fun a => (Res.ofO (captL a.2 fv)).bind fun c =>
  (noEr (compP gt ft fe a.1 (List.replicate n none ++ c.1.map fun d => some (.fz d)) [])).bind fun xs => .ok (.ow xs, c.2)
theorem own_map {n : Nat} {own : List Str} (h : own.length = n) : own.map (fun _ => (none : Option V)) = List.replicate n none := by
  subst h
  induction own with
  | nil => rfl
  | cons x r ih => rw [List.map_cons, ih, List.length_cons, List.replicate_succ]
theorem noEr_ok {α : Type} {r : Res α} {P : α → Prop} (h : WR K E B H0 P (noEr r)) : ∃ a, r = .ok a ∧ P a := by
  cases r with
  | ok a => exact ⟨a, rfl, h⟩
  | er x => exact h.elim
  | bad => exact h.elim
noncomputable def ItOkS (K : PySem.W.Frag) (J : It) (O : Own) (H : Hp) (ds : List D) : Prop := ∀ O' H', Ev O H O' H' → Same H H' → NoneO O' H' →
  (∀ i, i < ds.length → J.go i H' ∧ ∀ x H'', J.yld i H' x H'' → Same H' H'' ∧ ∃ d, ds[i]? = some d ∧ DV O' K H'' x d) ∧ J.stop ds.length H'
noncomputable def IOS (K : PySem.W.Frag) (E : XK) (wi : TI) (fi : FI) : Prop :=
  ∀ (B : Own) (H0 : Hp) (O : Own) (σ : St) (H : Hp) (ρ : PEnv) (R' : It → Hp → Prop), Rl K B H0 O σ H ρ → WR K E B H0 (fun r => ∀ O' J H', Ev O H O' H' → Rl K B H0 O' σ H' r.2 → ItOkS K J O' H' r.1 → R' J H') (fi ρ) → wi σ H R'
theorem IO.s {wi : TI} {fi : FI} (h : IO K E wi fi) : IOS K E wi fi := fun B H0 O σ H ρ R' R w => h B H0 O σ H ρ R' R (w.imp fun r q O' J H' e R it => q O' J H' e R fun O2 H2 e2 _ n => it O2 H2 e2 n)
theorem eo_compS {own : List Str} {fv : List (Str × Nat)} {wi : TI} {g : TG} {tc : TT} {te : TE} {fi : FI} {gt : FG} {ft : FT} {fe : FE} {n : Nat} {fj : List Nat} (hn : own.length = n) (hf : fv.map (·.2) = fj)
    (hi : IOS K E wi fi) (hg : GO K E0 g gt) (ht : TTO K E0 tc ft) (he : EO K E0 te fe) : EO K E (tComp own fv wi g tc te) (pComp n fj fi gt ft fe) := by
  intro B H0 O σ H ρ Q R w
  refine hi B H0 O σ H ρ _ R (w.bind.imp fun a w1 O1 J H1 e1 R1 it => ?_)
  obtain ⟨ds, ρ1⟩ := a
  obtain ⟨⟨cs, ρ2⟩, qc, w1⟩ := w1.ofO
  dsimp only at qc it
  obtain ⟨O2, vs, e2, R2, dvs, hvs⟩ := captL_ok R1 qc
  obtain ⟨xs, qx, w1⟩ := noEr_ok (WR.bind w1)
  intro Dd hDd
  -- the heap with the new list; it is owned
  have hB : ∀ {H' : Hp}, Same H1 H' → H' Dd ≠ none → ∀ a, addO O2 Dd a → H' a ≠ none := fun {H'} s nd a h z => h.elim (fun q => R2.od a (s.free z) q) fun e => nd (by rw [← e]; exact z)
  refine ⟨fun i m σ' H' => m = ds.length - i ∧ i ≤ ds.length ∧ ∃ (acc : List D) (ys : List V) (ρc : PEnv), Same H1 H' ∧ H' Dd = some (.lst ys) ∧ DVs (addO O2 Dd) K H' ys acc ∧ σ'.length = ρc.length ∧ (∀ (j : Nat) (x : PV), ρc[j]? = some (some x) → ∃ d u, x = PV.fz d ∧ σ'[j]? = some (some u) ∧ DV (addO O2 Dd) K H' u d) ∧ compP gt ft fe (ds.drop i) ρc acc = .ok xs,
    ⟨_, rfl, Nat.zero_le _, [], [], _, same_upd hDd _, upd_same, .nil, ?_, fun j x hx => ?_, qx⟩, ?_⟩
  · unfold compSt
    rw [List.length_append, List.length_append, List.length_map, List.length_map, List.length_replicate, List.length_map, hn, ← dvs.length]
    have := congrArg List.length hvs
    rw [List.length_map, List.length_map, ← hf, List.length_map] at this
    omega
  · have hm : fv.map (fun p => (σ[p.2]?).join) = vs.map some := by rw [← hvs, ← hf, List.map_map]; rfl
    unfold compSt
    rw [own_map hn, hm]
    by_cases hj : j < n
    · rw [List.getElem?_append_left (by rw [List.length_replicate]; exact hj), List.getElem?_replicate, if_pos hj] at hx
      cases hx
    · rw [List.getElem?_append_right (by rw [List.length_replicate]; omega), List.length_replicate, List.getElem?_map] at hx ⊢
      cases qd : cs[j - n]? with
      | none => rw [qd] at hx; cases hx
      | some d =>
        rw [qd] at hx
        cases hx
        obtain ⟨u, hu, du⟩ := dvs.get qd
        exact ⟨d, u, rfl, by rw [hu]; rfl, du.ev (Ev.add (same_upd hDd _) hDd)⟩
  · rintro i m σ' H' ⟨rfl, hi, acc, ys, ρc, s, hD, dys, hl, hsl, qP⟩
    have nD : H' Dd ≠ none := by rw [hD]; simp
    have no' : NoneO (addO O2 Dd) H' := fun a z h => hB s nD a h z
    have ev1 : Ev O1 H1 (addO O2 Dd) H' := e2.trans (Ev.add s hDd)
    obtain ⟨go, stop⟩ := it (addO O2 Dd) H' ev1 s no'
    by_cases hlt : i < ds.length
    · obtain ⟨g1, g2⟩ := go i hlt
      refine .inr ⟨g1, fun σ5 H5 => i + 1 ≤ ds.length ∧ ∃ (acc : List D) (ys : List V) (ρc : PEnv), Same H1 H5 ∧ H5 Dd = some (.lst ys) ∧ DVs (addO O2 Dd) K H5 ys acc ∧ σ5.length = ρc.length ∧ (∀ (j : Nat) (x : PV), ρc[j]? = some (some x) → ∃ d u, x = PV.fz d ∧ σ5[j]? = some (some u) ∧ DV (addO O2 Dd) K H5 u d) ∧ compP gt ft fe (ds.drop (i + 1)) ρc acc = .ok xs,
        fun σ5 H5 ⟨h1, h2⟩ => ⟨ds.length - (i + 1), by omega, rfl, h1, h2⟩, fun x H3 y => ?_⟩
      obtain ⟨s3, d, hd, dv⟩ := g2 x H3 y
      have ed : ds.drop i = d :: ds.drop (i + 1) := by
        obtain ⟨_, q⟩ := List.getElem?_eq_some_iff.mp hd
        rw [List.drop_eq_getElem_cons hlt, q]
      rw [ed] at qP
      have hD3 : H3 Dd = some (.lst ys) := s3 _ _ hD
      have nD3 : H3 Dd ≠ none := by rw [hD3]; simp
      have sv : Same H1 H3 := s.trans s3
      -- the block's own state
      have RC : Rl K (addO O2 Dd) H3 (addO O2 Dd) σ' H3 ρc := ⟨Same.refl _, fun _ h => h, hB sv nD3, fun a z h => hB sv nD3 a h z, hl, fun j x hx => by
          obtain ⟨d, u, rfl, h1, h2⟩ := hsl j x hx
          exact ⟨u, h1, h2.ev (Ev.grow s3)⟩, fun j k xs ys w hj => by obtain ⟨d, u, e, _⟩ := hsl j _ hj; cases e⟩
      unfold compP at qP
      have back : ∀ {O5 : Own} {σ5 : St} {H5 : Hp} {ρ5 : PEnv} {H6 : Hp}, Rl K (addO O2 Dd) H3 O5 σ5 H5 ρ5 → (∀ b o, b ≠ Dd → H5 b = some o → H6 b = some o) → σ5.length = (forget ρ5).length ∧ ∀ (j : Nat) (x : PV), (forget ρ5)[j]? = some (some x) → ∃ d u, x = PV.fz d ∧ σ5[j]? = some (some u) ∧ DV (addO O2 Dd) K H6 u d := fun {O5 σ5 H5 ρ5 H6} R5 k => by
        refine ⟨by unfold forget; rw [List.length_map]; exact R5.len, fun j x hx => ?_⟩
        obtain ⟨d, rfl, hxx⟩ := forget_get hx
        obtain ⟨u, h1, h2⟩ := R5.slot j _ hxx
        refine ⟨d, u, rfl, h1, DV.ev (O := addO O2 Dd) (H := H5) (fun b o h n => ⟨k b o (fun e => n (.inr e)) h, n⟩) (DV.ev (Ev.sub R5.bo) h2)⟩
      refine hg _ _ _ σ' H3 ρc x (.fz d) _ RC dv ?_
      cases qg : gt (.fz d) ρc with
      | er z => rw [qg] at qP; cases qP
      | bad => rw [qg] at qP; cases qP
      | ok ρ3 =>
        rw [qg, Res.bind_ok] at qP
        intro O4 σ4 H4 e4 R4
        refine ht _ _ _ σ4 H4 ρ3 _ R4 ?_
        cases qt : ft ρ3 with
        | er z => rw [qt] at qP; cases qP
        | bad => rw [qt] at qP; cases qP
        | ok b =>
          obtain ⟨b, ρ4⟩ := b
          rw [qt, Res.bind_ok] at qP
          intro O5 H5 e5 R5
          cases b with
          | false =>
            rw [if_neg Bool.false_ne_true] at qP ⊢
            obtain ⟨l5, k5⟩ := back R5 (H6 := H5) fun b o _ h => h
            refine ⟨hlt, acc, ys, forget ρ4, sv.trans R5.same, R5.same _ _ hD3, ?_, l5, k5, qP⟩
            exact dys.ev (Ev.grow (s3.trans R5.same))
          | true =>
            rw [if_pos rfl] at qP ⊢
            refine he _ _ _ σ4 H5 ρ4 _ R5 ?_
            cases qe : fe ρ4 with
            | er z => rw [qe] at qP; cases qP
            | bad => rw [qe] at qP; cases qP
            | ok r =>
              rw [qe, Res.bind_ok] at qP
              intro O6 yv H6 e6 R6 p6
              cases q7 : toD r.2 r.1 with
              | none => rw [q7] at qP; cases qP
              | some xr =>
                obtain ⟨xd, ρ7⟩ := xr
                rw [q7] at qP
                obtain ⟨O7, e7, R7, dv7⟩ := to_ok R6 p6 q7
                have hD7 : H6 Dd = some (.lst ys) := R7.same _ _ hD3
                have qP' : (if acc.length < 1000000 then compP gt ft fe (ds.drop (i + 1)) (forget ρ7) (acc ++ [xd]) else .bad) = .ok xs := qP
                by_cases hl6 : acc.length < 1000000
                · rw [if_pos hl6] at qP'
                  have up : ∀ b o, b ≠ Dd → H6 b = some o → upd H6 Dd (.lst (ys ++ [yv])) b = some o := fun b o hb h => by rw [upd_ne hb]; exact h
                  have evD : Ev (addO O2 Dd) H6 (addO O2 Dd) (upd H6 Dd (.lst (ys ++ [yv]))) := fun b o h n => ⟨up b o (fun e => n (.inr e)) h, n⟩
                  have dys6 : DVs (addO O2 Dd) K H6 ys acc := dys.ev (Ev.grow (s3.trans R7.same))
                  obtain ⟨l5, k5⟩ := back R7 up
                  refine ⟨ys, hD7, lt1e6 (by rw [dys.length]; exact hl6), hlt, acc ++ [xd], ys ++ [yv], forget ρ7, fun b o h => ?_, upd_same, ?_, l5, k5, qP'⟩
                  · rw [upd_ne (ne_of_none h hDd)]
                    exact R7.same _ _ (sv _ _ h)
                  · exact (dys6.append (.cons (DV.ev (Ev.sub R7.bo) dv7) .nil)).ev evD
                · rw [if_neg hl6] at qP'
                  cases qP'
    · have e : i = ds.length := by omega
      subst e
      rw [List.drop_eq_nil_of_le (Nat.le_refl _)] at qP
      have qP : Res.ok acc = .ok xs := qP
      cases qP
      refine .inl ⟨stop, ?_⟩
      refine w1 (addO O2 Dd) (.ref Dd) H' (e1.trans ev1) (R2.add s hDd nD) ⟨Dd, ys, rfl, .inr rfl, R2.none0 hDd, hD, dys, fun k es hk z => ?_⟩
      obtain ⟨u, h1, b, us, e2, g1, g2, g3, g4⟩ := R2.slot k _ hk
      rw [z] at h1
      cases h1
      cases e2
      rw [hDd] at g3
      cases g3
theorem eo_comp {own : List Str} {fv : List (Str × Nat)} {wi : TI} {g : TG} {tc : TT} {te : TE} {fi : FI} {gt : FG} {ft : FT} {fe : FE} {n : Nat} {fj : List Nat} (hn : own.length = n) (hf : fv.map (·.2) = fj)
    (hi : IO K E wi fi) (hg : GO K E0 g gt) (ht : TTO K E0 tc ft) (he : EO K E0 te fe) : EO K E (tComp own fv wi g tc te) (pComp n fj fi gt ft fe) := eo_compS hn hf hi.s hg ht he
noncomputable def pCal (F : FN) (n : Nat) (fa : FA) : FE := fun ρ => (fa ρ).bind fun a => (Res.ofO (toDs a.2 a.1)).bind fun b => if b.1.length = n then (noEr (F b.1)).bind fun rv => .ok (rv.pv, b.2) else .bad
theorem eo_cal {F : FN} {n : Nat} {ta : TA} {fa : FA} (ha : AO K E ta fa) : EO K E (tCall (spP K n F) [] E0 ta) (pCal F n fa) := by
  intro B H0 O σ H ρ Q R w
  refine ha B H0 O σ H ρ _ R (w.bind.imp fun a w1 O1 vs H1 e1 R1 p1 => ?_)
  obtain ⟨⟨ds, ρ2⟩, q, w2⟩ := w1.ofO
  obtain ⟨O2, e2, R2, dv⟩ := tos_ok R1 p1 q
  dsimp only at w2
  by_cases hn : ds.length = n
  · rw [if_pos hn] at w2
    obtain ⟨rv, qF, w2⟩ := noEr_ok (WR.bind w2)
    rw [List.append_nil]
    refine ⟨dv.length.trans hn, O2, ds, fun a z hz => R2.od a hz z, dv, ?_⟩
    rw [qF]
    exact fin_of R2 fun O3 v H3 e3 R3 p3 => w2 O3 v H3 (e1.trans (e2.trans e3)) R3 p3
  · rw [if_neg hn] at w2
    exact w2.elim
end
noncomputable def runF (N : Nat) (g : FS) : FN := fun ds => (g (ds.map (fun d => some (.fz d)) ++ List.replicate (N - ds.length) none)).bind fun fl => match fl with
  | .rt rv => .ok rv
  | .nx _ => .ok (.fz .none)
  | _ => .bad
theorem rl_start {K : PySem.W.Frag} {B : Own} {H : Hp} {N : List Str} {vs : List V} {ds : List D} (hb : ∀ a, B a → H a ≠ none) (dv : DVs B K H vs ds) : Rl K B H B (L2.start N vs) H (ds.map (fun d => some (.fz d)) ++ List.replicate (N.length - ds.length) none) := by
  have hl := dv.length
  refine ⟨Same.refl _, fun _ h => h, hb, fun a z h => hb a h z, ?_, fun i x hx => ?_, fun i j xs ys w hi => ?_⟩
  · unfold L2.start
    rw [List.length_append, List.length_append, List.length_map, List.length_map, List.length_replicate, List.length_replicate, hl]
  all_goals
    have key : ∀ {i : Nat} {x : PV}, (ds.map (fun d => some (PV.fz d)) ++ List.replicate (N.length - ds.length) none)[i]? = some (some x) → ∃ d, x = .fz d ∧ ds[i]? = some d := fun {i x} h => by
      by_cases hi : i < ds.length
      · rw [List.getElem?_append_left (by rw [List.length_map]; exact hi), List.getElem?_map] at h
        cases q : ds[i]? with
        | none => rw [q] at h; cases h
        | some d => rw [q] at h; cases h; exact ⟨d, rfl, rfl⟩
      · rw [List.getElem?_append_right (by rw [List.length_map]; omega), List.getElem?_replicate] at h
        split at h <;> cases h
  · obtain ⟨d, rfl, hd⟩ := key hx
    obtain ⟨v, hv, h2⟩ := dv.get hd
    refine ⟨v, ?_, h2⟩
    have hi : i < vs.length := (List.getElem?_eq_some_iff.mp hv).1
    unfold L2.start
    rw [List.getElem?_append_left (by rw [List.length_map]; exact hi), List.getElem?_map, hv]
    rfl
  · obtain ⟨d, e, _⟩ := key hi
    cases e
theorem okP {P : Program} {w : World} {K : PySem.W.Frag} {mg : Str → Option Value} {base : Heap} {x qual : Str} {st : Stmt} {f : Addr} {fd : FuncData} {N ps : List Str} {k n : Nat} {g : FS} (F : Fun K x qual st f fd) (S : FnScope N ps (defScope st)) (hn : ps.length = n)
    (hbody : ∀ (cdv : Value) (A : Around) (outer : List Env) (s : Shared) (H : Hp) (E : XK), Room k (A.deeper (PyProof.Rows.envOfC qual (defScope st) s.heap.objs.size f cdv)) →
      ∃ t, PSs (cxOf CX0 P w K mg base N qual (defScope st) f cdv A outer s H E).nox (defBody st) t ∧ SO K E t g) : FnOk P w K mg base CX0 (k + 1) f fd ps (spP K n (runF N.length g)) := by
  refine F.ok S (fun vs H Q E h => h.1.trans hn.symm) (fun cdv A outer s H vs Q E hr h => ?_)
  obtain ⟨t, ht, hs⟩ := hbody cdv A outer s H E hr
  obtain ⟨hl, B, ds, hb, dv, h⟩ := h
  refine ⟨t, ht, hs B H B _ H _ _ (rl_start hb dv) (WR.imp (WR.bind h) fun fl q => ?_)⟩
  cases fl with
  | rt rv => exact q
  | nx ρ => exact fun O' σ' H' e R => q .non H' R.same .non
  | bk ρ => exact q.elim
  | ct ρ => exact q.elim
end L3
namespace L3
open PySem PySem.Spec PyProof.Rows L2
theorem OpR.or {X : Cx} {f : Value → Value → Sem Value} {r r' : R2} (h : OpR X f r) (h' : OpR X f r') : OpR X f (fun x y H Q => r x y H Q ∨ r' x y H Q) := by
  intro pins s σ H x y v u Q I rx ry q
  rcases q with q | q
  · exact h pins s σ H x y v u Q I rx ry q
  · exact h' pins s σ H x y v u Q I rx ry q
theorem lstX {X : Cx} {pins : List (Addr × Obj)} {σ : L2.St} {H : Hp} {s : Shared} {l : Addr} {xs : List V} (I : Inv X pins σ H s) (h : SqLX X.K H l xs) : xs.length ≤ sizeLine ∧ ∃ (its : List Value) (n : Nat), Vals xs its ∧ xs.length = its.length ∧ s.heap.get? l = some { cls := .type "list", data := .seq its.toArray n } := by
  rcases h with (h | ⟨o, h⟩) | ⟨its, n, h1, h2, h3⟩
  · exact I.lstM h
  · obtain ⟨_, z, its, n, r, e⟩ := I.hok l _ h
    exact ⟨z, its, n, r, r.length, e⟩
  · exact ⟨h2, its, n, h3, h3.length, I.kIn _ _ h1⟩
noncomputable def rCatX (K : PySem.W.Frag) : R2 := fun x y H Q => ∃ l b xs zs, x = .ref l ∧ y = .ref b ∧ SqLX K H l xs ∧ SqLX K H b zs ∧ xs.length + zs.length ≤ sizeLine ∧ ∀ p, H p = none → Q (.ref p) (upd H p (.lst (xs ++ zs)))
theorem op_catX {X : Cx} : OpR X (binaryOp .Add) (rCatX X.K) := by
  intro pins s σ H x y v u Q I rx ry h
  obtain ⟨l, b, xs, zs, rfl, rfl, hH, hB, hz, q⟩ := h
  cases rx
  cases ry
  obtain ⟨z, its, n, r, hl, e⟩ := lstX I hH
  obtain ⟨z2, its2, n2, r2, hl2, e2⟩ := lstX I hB
  refine PySem.P.add_list e e2 ?_ (by rw [List.size_toArray, List.size_toArray]; omega)
  have ea : its.toArray ++ its2.toArray = (its ++ its2).toArray := by simp
  rw [ea]
  exact ⟨.ref _, _, I.lnew (t' := s.toks) (r.append r2) (by rw [List.length_append]; omega), rfl, q _ I.fresh⟩
noncomputable def rRepX (K : PySem.W.Frag) : R2 := fun x y H Q => ∃ l k xs, x = .ref l ∧ y = .int k ∧ SqLX K H l xs ∧ -(2 ^ 63) ≤ k ∧ k < 2 ^ 63 ∧ xs.length * k.toNat ≤ sizeLine ∧
  ∀ p, H p = none → Q (.ref p) (upd H p (.lst (List.replicate k.toNat xs).flatten))
theorem op_repX {X : Cx} : OpR X (binaryOp .Mult) (rRepX X.K) := by
  intro pins s σ H x y v u Q I rx ry h
  obtain ⟨l, k, xs, rfl, rfl, hH, h1, h2, hz, q⟩ := h
  cases rx
  obtain ⟨t, rfl⟩ := ry
  obtain ⟨z, its, n, r, hl, e⟩ := lstX I hH
  have hlen : its.toArray.size * k.toNat ≤ sizeLine := by rw [List.size_toArray, ← hl]; exact hz
  have hcap : ¬ its.toArray.size * k.toNat > (2 ^ 63 - 1) / 8 := by
    have : (sizeLine : Nat) ≤ (2 ^ 63 - 1) / 8 := by decide
    omega
  have hfit : ¬ (!Builtin.List.listFitsIndex k) = true := by
    rw [fitsIndex_both h1 h2]
    exact Bool.false_ne_true
  have hlong : ¬ Builtin.List.listTooLong (its.toArray.size * k.toNat) = true := by
    rw [notLongL hlen]
    exact Bool.false_ne_true
  have hnew : List.foldl (fun x1 x2 => x1 ++ x2) #[] (List.replicate (if its.toArray.isEmpty = true then 0 else k.toNat) its.toArray) = (List.replicate k.toNat its).flatten.toArray := by
    have f0 : ∀ m : Nat, List.foldl (fun x1 x2 => x1 ++ x2) #[] (List.replicate m its.toArray) = (List.replicate m its).flatten.toArray := fun m => by
      have := foldl_rep its m []
      rw [List.nil_append] at this
      exact this
    rw [f0]
    cases its with
    | nil => simp
    | cons a r' => rw [if_neg (by simp)]
  refine wpAny_binaryOp_repeat_ref (T := "list") (U := "int") (by decide) ⟨_, e, rfl⟩ (fun s' => typeIs_int s' k t) noFill_list_mul F.fills_int_mul F.slot_int_rmul repeat_list F.slot_int_index.lookup
    (call_meets F.slot_int_rmul (typeIs_int s k t) F.entry_int_rmul (F.args_int_rmul_2 _ _) (int___rmul___int_list k t l its.toArray n)
      ⟨e, rfl, ⟨_, e, rfl⟩, call_meets F.slot_list_mul ⟨_, e, rfl⟩ F.entry_list_mul (F.args_list_mul_2 _ _) (AutoListH.list___mul___list_int_3 l its.toArray n k t hfit hcap hlong) ⟨e, ?_⟩⟩)
  rw [hnew]
  exact ⟨.ref _, _, I.lnew (t' := s.toks) (r.rep k.toNat) (by rw [len_rep, Nat.mul_comm]; exact hz), rfl, q _ I.fresh⟩
section
variable {K : PySem.W.Frag}
noncomputable def fI (g : Int → Int → Int) : D → D → Option RV
  | .int i, .int j => some (.fz (.int (g i j)))
  | _, _ => none
noncomputable def fB (g : Int → Int → Bool) : D → D → Option RV
  | .int i, .int j => some (.fz (.bool (g i j)))
  | _, _ => none
noncomputable def fIc (C : Int → Int → Bool) (g : Int → Int → Int) : D → D → Option RV
  | .int i, .int j => if C i j = true then some (.fz (.int (g i j))) else none
  | _, _ => none
theorem fI_cases {g : Int → Int → Int} {dx dy : D} {rv : RV} (h : fI g dx dy = some rv) : ∃ i j, dx = .int i ∧ dy = .int j ∧ rv = .fz (.int (g i j)) := by
  unfold fI at h
  split at h
  · cases h; exact ⟨_, _, rfl, rfl, rfl⟩
  · cases h
theorem opp_i {g : Int → Int → Int} : OpP K (rI0 fun i j => .int (g i j)) (fI g) := by
  intro O H x y dx dy rv Q n hx hy e q
  obtain ⟨i, j, rfl, rfl, rfl⟩ := fI_cases e
  cases hx; cases hy
  exact ⟨i, j, rfl, rfl, q.at (.int _)⟩
theorem opp_b {g : Int → Int → Bool} : OpP K (rI0 fun i j => .bl (g i j)) (fB g) := by
  intro O H x y dx dy rv Q n hx hy e q
  unfold fB at e
  split at e
  · cases e
    cases hx; cases hy
    exact ⟨_, _, rfl, rfl, q.at (.bl _)⟩
  · cases e
theorem opp_ic {C : Int → Int → Bool} {C' : Int → Int → Prop} {g : Int → Int → Int} (hC : ∀ i j, C i j = true → C' i j) : OpP K (rI C' fun i j => .int (g i j)) (fIc C g) := by
  intro O H x y dx dy rv Q n hx hy e q
  unfold fIc at e
  split at e
  · split at e
    · rename_i hc
      cases e
      cases hx; cases hy
      exact ⟨_, _, rfl, rfl, hC _ _ hc, q.at (.int _)⟩
    · cases e
  · cases e
theorem DXl {O : Own} {H : Hp} {x : V} {ds : List D} (h : DX O K H x (.list ds)) : ∃ a xs, x = .ref a ∧ SqLX K H a xs ∧ DVs O K H xs ds := h
theorem DXt {O : Own} {H : Hp} {x : V} {ds : List D} (h : DX O K H x (.tuple ds)) : ∃ a xs, x = .ref a ∧ SqTO O K H a xs ∧ DVs O K H xs ds := asT_ok h rfl
noncomputable def rAddA (K : PySem.W.Frag) : R2 := fun x y H Q => rI0 (fun i j => .int (i + j)) x y H Q ∨ rCatX K x y H Q ∨ rCatT K x y H Q
theorem op_addA {X : Cx} : OpR X (binaryOp .Add) (rAddA X.K) := OpR.or op_add (OpR.or op_catX op_catT)
noncomputable def addD : D → D → Option RV
  | .int i, .int j => some (.fz (.int (i + j)))
  | .list xs, .list ys => if xs.length + ys.length ≤ 1000000 then some (.ow (xs ++ ys)) else none
  | .tuple xs, .tuple ys => if xs ≠ [] ∧ xs.length + ys.length ≤ 1000000 then some (.fz (.tuple (xs ++ ys))) else none
  | _, _ => none
theorem le1e6 {n : Nat} (h : n ≤ 1000000) : n ≤ sizeLine := Nat.le_trans h (by decide)
theorem DVs.ne {O : Own} {H : Hp} {vs : List V} {ds : List D} (h : DVs O K H vs ds) : vs = [] ↔ ds = [] := by cases h <;> simp
theorem opp_add : OpP K (rAddA K) addD := by
  intro O H x y dx dy rv Q n hx hy e q
  unfold addD at e
  split at e
  · cases e
    cases hx; cases hy
    exact .inl ⟨_, _, rfl, rfl, q.at (.int _)⟩
  · split at e
    · rename_i hl
      cases e
      obtain ⟨a, xs, rfl, h1, h2⟩ := DXl hx
      obtain ⟨b, ys, rfl, g1, g2⟩ := DXl hy
      exact .inr (.inl ⟨a, b, xs, ys, rfl, rfl, h1, g1, le1e6 (by rw [h2.length, g2.length]; exact hl), Fin.new (h2.append g2) q⟩)
    · cases e
  · split at e
    · rename_i hl
      cases e
      obtain ⟨a, xs, rfl, h1, h2⟩ := DXt hx
      obtain ⟨b, ys, rfl, g1, g2⟩ := DXt hy
      refine .inr (.inr ⟨a, b, xs, ys, rfl, rfl, h1.1, g1.1, fun z => hl.1 (h2.ne.mp z), le1e6 (by rw [h2.length, g2.length]; exact hl.2), fun z => ?_, fun _ => Fin.newT (h2.append g2) n q⟩)
      have z' := g2.ne.mp z
      subst z'
      rw [List.append_nil] at q
      exact q.at (.tup h1 h2)
    · cases e
  · cases e
noncomputable def rMulA (K : PySem.W.Frag) : R2 := fun x y H Q => rI CMul (fun i j => .int (i * j)) x y H Q ∨ rRepX K x y H Q
theorem op_mulA {X : Cx} : OpR X (binaryOp .Mult) (rMulA X.K) := OpR.or op_mul op_repX
noncomputable def small64 (i : Int) : Bool := decide (-(2 ^ 64) < i ∧ i < 2 ^ 64)
theorem small64_ok {i : Int} (h : small64 i = true) : -(2 ^ 64) < i ∧ i < 2 ^ 64 := of_decide_eq_true h
noncomputable def mulD : D → D → Option RV
  | .int i, .int j => if (small64 i || small64 j) = true then some (.fz (.int (i * j))) else none
  | .list xs, .int k => if xs.length * k.toNat ≤ 1000000 ∧ -(2 ^ 63) ≤ k ∧ k < 2 ^ 63 then some (.ow (List.replicate k.toNat xs).flatten) else none
  | _, _ => none
theorem opp_mul : OpP K (rMulA K) mulD := by
  intro O H x y dx dy rv Q n hx hy e q
  unfold mulD at e
  split at e
  · split at e
    · rename_i hc
      cases e
      cases hx; cases hy
      refine .inl ⟨_, _, rfl, rfl, ?_, q.at (.int _)⟩
      rcases (Bool.or_eq_true _ _).mp hc with z | z
      · exact .inl (small64_ok z)
      · exact .inr (small64_ok z)
    · cases e
  · split at e
    · rename_i hc
      cases e
      cases hy
      obtain ⟨a, xs, rfl, h1, h2⟩ := DXl hx
      exact .inr ⟨a, _, xs, rfl, rfl, h1, hc.2.1, hc.2.2, le1e6 (by rw [h2.length]; exact hc.1), Fin.new (h2.flat _) q⟩
    · cases e
  · cases e
noncomputable def subD := fI fun i j => i - j
theorem opp_sub : OpP K (rI0 fun i j => .int (i - j)) subD := opp_i
noncomputable def posC (_ j : Int) : Bool := decide (0 < j)
noncomputable def modD := fIc posC fun i j => i % j
theorem opp_mod : OpP K (rI (fun _ j => 0 < j) fun i j => .int (i % j)) modD := opp_ic fun i j h => of_decide_eq_true h
noncomputable def divC (_ j : Int) : Bool := decide (0 < j ∧ j < 2 ^ 128)
noncomputable def divD := fIc divC fun i j => i / j
theorem opp_div : OpP K (rI (fun _ j => 0 < j ∧ j.natAbs.log2 < 9000) fun i j => .int (i / j)) divD := opp_ic fun i j h => by
  have h' := of_decide_eq_true h
  refine ⟨h'.1, ?_⟩
  have h2 : j.natAbs < 2 ^ 128 := by
    have := h'.2
    omega
  have h3 : j.natAbs.log2 < 128 := (Nat.log2_lt (by omega)).mpr h2
  omega
noncomputable def powC (i j : Int) : Bool := decide (0 ≤ j ∧ j ≤ 1000000 ∧ i.natAbs < 2 ^ 64)
theorem powC_ok (i j : Int) (h : powC i j = true) : CPow i j := by
  unfold powC at h
  exact (show 0 ≤ j ∧ j ≤ 1000000 ∧ i.natAbs < 2 ^ 64 from of_decide_eq_true h)
noncomputable def powD := fIc powC fun i j => i ^ j.toNat
theorem opp_pow : OpP K (rI CPow fun i j => .int (i ^ j.toNat)) powD := opp_ic powC_ok
noncomputable def ltD := fB fun i j => decide (i < j)
noncomputable def geD := fB fun i j => decide (j ≤ i)
theorem opp_lt : OpP K (rI0 fun i j => .bl (decide (i < j))) ltD := opp_b
theorem opp_ge : OpP K (rI0 fun i j => .bl (decide (j ≤ i))) geD := opp_b
noncomputable def okD (d : D) : Bool := d.canLay0 && decide (d.depth ≤ 64)
noncomputable def eqD (d e : D) : Option RV := if (okD d && e.canLay0) = true then some (.fz (.bool (PyData.eqv d e))) else none
noncomputable def neD (d e : D) : Option RV := if (okD d && e.canLay0) = true then some (.fz (.bool (!PyData.eqv d e))) else none
theorem opp_eq : OpP K (rEqD K false) eqD := by
  intro O H x y dx dy rv Q n hx hy e q
  unfold eqD at e
  split at e
  · rename_i hc
    cases e
    unfold okD at hc
    simp only [Bool.and_eq_true, decide_eq_true_eq] at hc
    exact ⟨dx, dy, hx.plain, hy.plain, hc.1.1, hc.2, hc.1.2, q.at (.bl _)⟩
  · cases e
theorem opp_ne : OpP K (rEqD K true) neD := by
  intro O H x y dx dy rv Q n hx hy e q
  unfold neD at e
  split at e
  · rename_i hc
    cases e
    unfold okD at hc
    simp only [Bool.and_eq_true, decide_eq_true_eq] at hc
    exact ⟨dx, dy, hx.plain, hy.plain, hc.1.1, hc.2, hc.1.2, q.at (.bl _)⟩
  · cases e
noncomputable def isnD : D → D → Option RV
  | .none, .none => some (.fz (.bool true))
  | _, .none => some (.fz (.bool false))
  | _, _ => none
theorem dx_non {O : Own} {H : Hp} {x : V} {d : D} (h : DX O K H x d) (hd : d ≠ .none) : x ≠ .non := by
  cases d with
  | none => exact absurd rfl hd
  | list ds => obtain ⟨a, xs, rfl, _⟩ := DXl h; simp
  | tuple ds => obtain ⟨a, xs, rfl, _⟩ := DXt h; simp
  | bool b => cases h; simp
  | int b => cases h; simp
  | str b => cases h; simp
  | dict b => cases h
theorem opp_isn : OpP K (fun x y H Q => y = .non ∧ Q (.bl (decide (x = .non))) H) isnD := by
  intro O H x y dx dy rv Q n hx hy e q
  unfold isnD at e
  split at e
  · cases e
    cases hx; cases hy
    exact ⟨rfl, q.at (.bl _)⟩
  · rename_i hd
    cases e
    cases hy
    refine ⟨rfl, ?_⟩
    rw [decide_eq_false (dx_non hx hd)]
    exact q.at (.bl _)
  · cases e
noncomputable def ixD (d e : D) : Option RV := match asSeq d, e with
  | some ds, .int i => (atI ds i).map .fz
  | _, _ => none
theorem atI_dv {O : Own} {H : Hp} {xs : List V} {ds : List D} {i : Int} {d : D} (h : DVs O K H xs ds) (e : atI ds i = some d) : ∃ v, atI xs i = some v ∧ DV O K H v d := by
  unfold atI at e ⊢
  rw [h.length]
  cases q : ixN ds.length i with
  | none => rw [q] at e; cases e
  | some j =>
    rw [q] at e
    exact h.get e
theorem opp_ix : OpP K (rIx K) ixD := by
  intro O H x y dx dy rv Q n hx hy e q
  unfold ixD at e
  split at e
  · rename_i ds i hs
    cases hy
    cases qa : atI ds i with
    | none => rw [qa] at e; cases e
    | some d =>
      rw [qa] at e
      cases e
      unfold asSeq at hs
      split at hs
      · cases hs
        obtain ⟨a, xs, rfl, h1, h2⟩ := DXt hx
        obtain ⟨v, hv, dv⟩ := atI_dv h2 qa
        exact .inr (.inl ⟨a, xs, i, v, rfl, rfl, h1.1, hv, q.at dv⟩)
      · cases hs
        obtain ⟨a, xs, rfl, h1, h2⟩ := DXl hx
        obtain ⟨v, hv, dv⟩ := atI_dv h2 qa
        exact .inl ⟨a, xs, i, v, rfl, rfl, h1.sq, hv, q.at dv⟩
      · cases hs
  · cases e
noncomputable def cutD (xs : List D) (lo hi : Option Int) : List D := (xs.drop (HT.sIx xs.length 0 lo)).take (HT.sIx xs.length xs.length hi - HT.sIx xs.length 0 lo)
theorem cut_dv {O : Own} {H : Hp} {xs : List V} {ds : List D} {lo hi : Option Int} (h : DVs O K H xs ds) : DVs O K H (cutV xs lo hi) (cutD ds lo hi) := by
  unfold cutV cutD
  rw [h.length]
  exact (h.drop _).take _
noncomputable def wholeCut (n : Nat) (lo hi : Option Int) : Bool := decide (HT.sIx n 0 lo = 0 ∧ HT.sIx n n hi = n)
noncomputable def rSlA (K : PySem.W.Frag) : V → Option Int → Option Int → Hp → VK → Prop := fun x lo hi H Q => rSlL K x lo hi H Q ∨ rSlT K x lo hi H Q
theorem sl_any {X : Cx} : SlR X (rSlA X.K) := by
  intro pins s σ H x v vl vu lo hi sl Q I rx hs pl pu h
  rcases h with h | h
  · exact sl_list pins s σ H x v vl vu lo hi sl Q I rx hs pl pu h
  · exact sl_tup pins s σ H x v vl vu lo hi sl Q I rx hs pl pu h
noncomputable def slD : D → Option Int → Option Int → Option RV
  | .list ds, lo, hi => some (.ow (cutD ds lo hi))
  | .tuple ds, lo, hi => if wholeCut ds.length lo hi = true then none else some (.fz (.tuple (cutD ds lo hi)))
  | _, _, _ => none
theorem slp_any : SlP K (rSlA K) slD := by
  intro O H x lo hi dx rv Q n hx e q
  unfold slD at e
  split at e
  · cases e
    obtain ⟨a, xs, rfl, h1, h2⟩ := DXl hx
    exact .inl ⟨a, xs, rfl, h1.sq, Fin.new (cut_dv h2) q⟩
  · split at e
    · cases e
    · rename_i hw
      cases e
      obtain ⟨a, xs, rfl, h1, h2⟩ := DXt hx
      refine .inr ⟨a, xs, rfl, h1.1, fun z => hw ?_, Fin.newT (cut_dv h2) n q⟩
      unfold wholeCut
      rw [← h2.length]
      exact decide_eq_true z
  · cases e
noncomputable def lenD : List D → Option RV
  | [d] => (match asSeq d with
    | some ds => some (.fz (.int ds.length))
    | none => none)
  | _ => none
theorem cb_len : CbP K (fun xs H Q => ∃ x n, xs = [x] ∧ LenV K x H n ∧ Q (.int n) H) lenD := by
  intro O H xs ds rv Q n hp e q
  unfold lenD at e
  split at e
  · split at e
    · rename_i es hs
      cases e
      cases hp with
      | cons h1 h2 =>
        cases h2
        unfold asSeq at hs
        split at hs
        · cases hs
          obtain ⟨a, xs, rfl, h1, h2⟩ := DXt h1
          exact ⟨_, xs.length, rfl, .inr ⟨xs, h1.1, rfl⟩, by rw [h2.length]; exact q.at (.int _)⟩
        · cases hs
          obtain ⟨a, xs, rfl, h1, h2⟩ := DXl h1
          exact ⟨_, xs.length, rfl, .inl ⟨xs, h1.sq, rfl⟩, by rw [h2.length]; exact q.at (.int _)⟩
        · cases hs
    · cases e
  · cases e
noncomputable def tupD : List D → Option RV
  | [.tuple ds] => some (.fz (.tuple ds))
  | [.list ds] => some (.fz (.tuple ds))
  | _ => none
theorem cb_tuple : CbP K (fun xs H Q => ∃ p ys, xs = [.ref p] ∧ ((SqL K H p ys ∧ ∀ l, H l = none → Q (.ref l) (upd H l (.tup ys))) ∨ (SqT K H p ys ∧ Q (.ref p) H))) tupD := by
  intro O H xs ds rv Q n hp e q
  unfold tupD at e
  split at e
  · cases e
    cases hp with
    | cons h1 h2 =>
      cases h2
      obtain ⟨a, xs, rfl, h1, h2⟩ := DXt h1
      exact ⟨a, xs, rfl, .inr ⟨h1.1, q.at (.tup h1 h2)⟩⟩
  · cases e
    cases hp with
    | cons h1 h2 =>
      cases h2
      obtain ⟨a, xs, rfl, h1, h2⟩ := DXl h1
      exact ⟨a, xs, rfl, .inl ⟨h1.sq, Fin.newT h2 n q⟩⟩
  · cases e
noncomputable def lstD : List D → Option RV
  | [d] => (asSeq d).map .ow
  | _ => none
theorem cb_list : CbP K (fun xs H Q => ∃ p ys, xs = [.ref p] ∧ (SqL K H p ys ∨ SqT K H p ys) ∧ ∀ l, H l = none → Q (.ref l) (upd H l (.lst ys))) lstD := by
  intro O H xs ds rv Q n hp e q
  unfold lstD at e
  split at e
  · rename_i d
    cases hp with
    | cons h1 h2 =>
      cases h2
      cases hs : asSeq d with
      | none => rw [hs] at e; cases e
      | some es =>
        rw [hs] at e
        cases e
        unfold asSeq at hs
        split at hs
        · cases hs
          obtain ⟨a, xs, rfl, h1, h2⟩ := DXt h1
          exact ⟨a, xs, rfl, .inr h1.1, Fin.new h2 q⟩
        · cases hs
          obtain ⟨a, xs, rfl, h1, h2⟩ := DXl h1
          exact ⟨a, xs, rfl, .inl h1.sq, Fin.new h2 q⟩
        · cases hs
  · cases e
noncomputable def max2D : List D → Option RV
  | [.int i, .int j] => some (.fz (.int (if j > i then j else i)))
  | _ => none
theorem cb_max2 : CbP K (fun xs H Q => ∃ i j, xs = [.int i, .int j] ∧ Q (.int (if j > i then j else i)) H) max2D := by
  intro O H xs ds rv Q n hp e q
  unfold max2D at e
  split at e
  · cases e
    cases hp with
    | cons h1 h2 =>
      cases h2 with
      | cons h2 h3 =>
        cases h3; cases h1; cases h2
        exact ⟨_, _, rfl, q.at (.int _)⟩
  · cases e
end
end L3
namespace PySem
open Sem (wp)
open AutoSeq1 (wpAny_loadPart')
open Builtin Builtin.Str
section
variable {prog : Program} {w : World} {A : Around} {E : Value → Shared → Prop} {s : Shared}
end
set_option maxHeartbeats 4000000 in
section
variable {prog : Program} {w : World} {A : Around} {E : Value → Shared → Prop} {s : Shared}
end
end PySem
namespace L3
open PySem PySem.Spec PyProof.Rows L2
section
variable {K : PySem.W.Frag} {E : XK} {B O O' : Own} {H0 H H' : Hp} {σ : L2.St} {ρ ρ' : PEnv} {v : V}
end
section
variable {X : Cx}
end
section
variable {K : PySem.W.Frag}
noncomputable def asIs : List D → Option (List Int)
  | [] => some []
  | .int b :: r => (asIs r).map (b :: ·)
  | _ => none
theorem asIs_ok {O : Own} {H : Hp} : ∀ {xs : List V} {ds : List D} {bs : List Int}, DVs O K H xs ds → asIs ds = some bs → xs = bs.map V.int
  | _, _, _, .nil, e => by cases e; rfl
  | _, _, bs, .cons (vs := vs) (ds := r) h t, e => by
    cases h with
    | int b =>
      have e' : (asIs r).map (b :: ·) = some bs := e
      cases q : asIs r with
      | none => rw [q] at e'; cases e'
      | some bs' =>
        rw [q] at e'
        cases e'
        rw [asIs_ok t q]
        rfl
    | _ => cases e
theorem asIs_map (ns : List Int) : asIs (ns.map .int) = some ns := by
  induction ns with
  | nil => rfl
  | cons n r ih => show (asIs (r.map .int)).map (n :: ·) = _; rw [ih]; rfl
theorem dvs_ints {O : Own} {H : Hp} (ns : List Int) : DVs O K H (ns.map V.int) (ns.map .int) := by
  induction ns with
  | nil => exact .nil
  | cons n r ih => exact .cons (.int n) ih
end
end L3
namespace L3
open PySem PySem.Spec PyProof.Rows L2
section
variable {K : PySem.W.Frag} {E : XK} {B O O' : Own} {H0 H H' : Hp} {σ : L2.St} {ρ ρ' : PEnv} {v : V}
end
section
variable {K : PySem.W.Frag}
end
theorem law_callX {P : Program} {w : World} {K : PySem.W.Frag} {mg mb : Str → Option Value} {k : Nat} {fa a : Addr} {fd : FuncData} {x : Str} {F : FN} {s₁ : Shared} {vs : List Value} {ns : List Int}
    (KX : K.In s₁.heap) (hns : s₁.heap.Ns mainGlobals mg) (hb : s₁.heap.Ns builtinsNs mb) (hbb : ∀ x : Str, x ≠ "__name__" → mb x = bootBuiltins x) (hlim : s₁.heap.NoLimit) (hg : s₁.gens = #[])
    (ha : s₁.heap.get? a = some { cls := .type "list", data := .seq vs.toArray }) (hi : IntsAre vs ns) (hl : ns.length ≤ sizeLine) (hr : Room k callerA)
    (FF : ∀ base : Heap, K.In base → base.Ns mainGlobals mg → FnOk P w K mg base CX0 k fa fd [x] (spP K 1 F)) (hbind : ∀ (s : Shared) (u : Value), BindsTo s fd ⟨[u], []⟩ [(x, u)])
    (hF : F [.list (ns.map .int)] = .ok (.fz (.bool true))) :
    codeAny (model P w) callerA (.call (.ref fa) ⟨[.ref a], []⟩) (fun r s' => r = .ok (.ret (.bool true)) ∧ OldK s₁.heap s'.heap ∧ s'.os = s₁.os ∧ AllBare s'.gens) s₁ := by
  refine law_call (sp := fun vs H Q E => spP K 1 F vs H Q E ∨ (vs.length = 1 ∧ False)) KX hns hb hbb hlim hg ha hi hl hr (fun base k1 k2 => (FF base k1 k2).imp fun vs H Q E h => ?_) hbind (fun H hO hS => ?_) fun _ _ _ h => h
  · rcases h with h | h
    · exact h
    · exact h.2.elim
  · refine .inl ⟨rfl, noO, [.list (ns.map .int)], fun a z => z.elim, .cons (.lst ⟨?_, fun z => z.elim⟩ (dvs_ints ns)) .nil, ?_⟩
    · rcases hS with h | ⟨o, its, n, h1, h2, h3, h4, h5, h6⟩
      · exact .inl h
      · have e := KX a o h1
        rw [ha] at e
        cases e
        cases h4
        exact .inr ⟨vs, 0, h1, by rw [List.length_map]; exact hl, by simpa using h6⟩
    · rw [hF]
      exact fun v H' s dv => by cases dv; rfl
theorem walkX {l : PySem.W.OpenLaw} {n k : Nat} {q : Program} {loose : List Str} {XP : (Str → Option Value) → Heap → Prop} {YP : World → Heap → Prop} {d : DefRec} {K : Params → PySem.W.Frag} {F : FN} {x : Str}
    (hn : l.most = some n) (hn2 : n ≤ sizeLine) (hdf : d.params.defaults = []) (hr : Room k callerA)
    (hY : ∀ (w : World) (h : Heap), YP w h → (K w.params).In h)
    (FF : ∀ (w : World) (mg : Str → Option Value) (fa : Addr) (h : Heap), (K w.params).In h → h.Ns mainGlobals mg → mg d.name = some (.ref fa) →
      ∃ fd : FuncData, (∀ (s : Shared) (u : Value), BindsTo s fd ⟨[u], []⟩ [(x, u)]) ∧ ∀ base : Heap, (K w.params).In base → base.Ns mainGlobals mg → FnOk l.prog w (K w.params) mg base CX0 k fa fd [x] (spP (K w.params) 1 F))
    (hF : ∀ ns : List Int, ns.length ≤ n → F [.list (ns.map .int)] = .ok (.fz (.bool true))) :
    PySem.W.WalkO q loose XP YP l.row.toRowW d [] (fun f vs => PySem.call f vs) := by
  refine Att.attach_call hn hdf fun w s₀ s₁ mg mb fa o pm cd doc a vs ns G Y ho hd hcd hmg hobj hints hlen hg => ?_
  have KX := hY w _ Y
  obtain ⟨fd, hb, hFF⟩ := FF w mg fa _ KX G.T.g hmg
  exact law_callX KX G.T.g G.T.b G.T.builtins G.T.nolimit hg hobj hints (Nat.le_trans hlen hn2) hr hFF hb (hF ns hlen)
theorem okF {P : Program} {w : World} {K : PySem.W.Frag} {mg : Str → Option Value} {base : Heap} {x qual : Str} {st : Stmt} {f : Addr} {fd : FuncData} {N ps : List Str} {k n m : Nat} {g : FS} {FF : FN} (F : Fun K x qual st f fd) (S : FnScope N ps (defScope st)) (hn : ps.length = n) (hm : N.length = m) (hF : FF = runF m g)
    (hbody : ∀ (cdv : Value) (A : Around) (outer : List Env) (s : Shared) (H : Hp) (E : XK), Room k (A.deeper (PyProof.Rows.envOfC qual (defScope st) s.heap.objs.size f cdv)) →
      ∃ t, PSs (cxOf CX0 P w K mg base N qual (defScope st) f cdv A outer s H E).nox (defBody st) t ∧ SO K E t g) : FnOk P w K mg base CX0 (k + 1) f fd ps (spP K n FF) := by
  subst hF hm
  exact okP F S hn hbody
noncomputable abbrev CalP (P : Program) (w : World) (K : PySem.W.Frag) (mg : Str → Option Value) (base : Heap) (k : Nat) (x : Str) (ps : List Str) (n : Nat) (F : FN) : Prop := CalOk P w K mg base k x ps (spP K n F)
end L3
namespace L3
open PySem L2
noncomputable abbrev nd (n : Nat) : D := .int (n : Int)
noncomputable def nds (ns : List Nat) : List D := ns.map nd
theorem nds_len (ns : List Nat) : (nds ns).length = ns.length := by unfold nds; rw [List.length_map]
theorem nds_get {ns : List Nat} {i : Nat} {d : D} (h : (nds ns)[i]? = some d) : ∃ n, ns[i]? = some n ∧ d = nd n := by
  unfold nds at h
  rw [List.getElem?_map] at h
  cases e : ns[i]? with
  | none => rw [e] at h; cases h
  | some n => rw [e] at h; exact ⟨n, rfl, (Option.some.inj h).symm⟩
theorem ofO_some {α : Type} (a : α) : Res.ofO (some a) = .ok a := rfl
theorem noEr_okk {α : Type} (a : α) : noEr (Res.ok a) = .ok a := rfl
theorem var_eq (i : Nat) (ρ : PEnv) : pVar i ρ = pVarS ρ i ρ[i]? := rfl
theorem var_fz (ρ : PEnv) (i : Nat) (d : D) : pVarS ρ i (some (some (.fz d))) = .ok (.fz d, ρ) := rfl
theorem var_ow (ρ : PEnv) (i : Nat) (ds : List D) : pVarS ρ i (some (some (.ow ds))) = .ok (.pl i, ρ) := rfl
theorem asOw_some (ds : List D) : asOw (some (some (.ow ds))) = some ds := rfl
theorem asI_int (i : Int) : asI (.int i) = some i := rfl
theorem asB_bool (b : Bool) : asB (.bool b) = some b := rfl
theorem tr_ltt (i j : Int) : ltD (.int i) (.int j) = some (.fz (.bool (decide (i < j)))) := rfl
theorem tr_ge (i j : Int) : geD (.int i) (.int j) = some (.fz (.bool (decide (j ≤ i)))) := rfl
theorem tr_add (i j : Int) : addD (.int i) (.int j) = some (.fz (.int (i + j))) := rfl
theorem tr_sub (i j : Int) : subD (.int i) (.int j) = some (.fz (.int (i - j))) := rfl
theorem tr_mod {i j : Int} (h : 0 < j) : modD (.int i) (.int j) = some (.fz (.int (i % j))) := by
  show (if posC i j = true then _ else _) = _
  rw [if_pos (show posC i j = true from decide_eq_true h)]
theorem tr_div {i j : Int} (h : 0 < j ∧ j < 2 ^ 128) : divD (.int i) (.int j) = some (.fz (.int (i / j))) := by
  show (if divC i j = true then _ else _) = _
  rw [if_pos (show divC i j = true from decide_eq_true h)]
theorem tr_mulL {i j : Int} (h : -(2 ^ 64) < i ∧ i < 2 ^ 64) : mulD (.int i) (.int j) = some (.fz (.int (i * j))) := by
  show (if (small64 i || small64 j) = true then _ else _) = _
  rw [if_pos (by rw [show small64 i = true from decide_eq_true h, Bool.true_or])]
theorem rng1_ok {j : Int} (h : small62 j) : rng1 [.int j] = some (intsFrom 0 j.toNat) := by
  show (if small62 j then _ else _) = _
  rw [if_pos h]
theorem from_nds (n : Nat) : intsFrom 0 n = nds (List.range n) := by
  unfold intsFrom nds
  apply List.map_congr_left
  intro k _
  rw [Int.zero_add]
theorem seq_nx {f g : FS} {ρ ρ1 : PEnv} (h : f ρ = .ok (.nx ρ1)) : sSeq f g ρ = g ρ1 := by unfold sSeq; rw [h]; rfl
theorem seq_rt {f g : FS} {ρ : PEnv} {rv : RV} (h : f ρ = .ok (.rt rv)) : sSeq f g ρ = .ok (.rt rv) := by unfold sSeq; rw [h]; rfl
theorem for_of {fi : FI} {gt : FG} {b : FS} {ρ ρ1 : PEnv} {ds : List D} (h : fi ρ = .ok (ds, ρ1)) : sFor fi gt b ρ = forP gt b ds ρ1 := by unfold sFor; rw [h]; rfl
theorem tr_pow {i : Int} {j : Nat} (h : j ≤ 1000000 ∧ i.natAbs < 2 ^ 64) : powD (.int i) (nd j) = some (.fz (.int (i ^ j))) := by
  show (if powC i (j : Int) = true then some (RV.fz (.int (i ^ ((j : Nat) : Int).toNat))) else none) = _
  rw [if_pos (by unfold powC; exact decide_eq_true ⟨by omega, by omega, h.2⟩), Int.toNat_natCast]
theorem pow18 : powD (.int 10) (.int 18) = some (.fz (.int (10 ^ 18))) := tr_pow (j := 18) ⟨by decide, by decide⟩
noncomputable def compT (gt : FG) (ft : FT) (fe : FE) (d : D) (ρ : PEnv) : Res (Option D × PEnv) := (gt (.fz d) ρ).bind fun ρ1 => (ft ρ1).bind fun b => if b.1 = true then (fe b.2).bind fun a => (Res.ofO (toD a.2 a.1)).bind fun x => .ok (some x.1, forget x.2) else .ok (none, forget b.2)
theorem compP_step {gt : FG} {ft : FT} {fe : FE} {d : D} {r : List D} {ρ ρ' : PEnv} {acc : List D} {o : Option D} (h : compT gt ft fe d ρ = .ok (o, ρ')) (hl : acc.length < 1000000) : compP gt ft fe (d :: r) ρ acc = compP gt ft fe r ρ' (acc ++ o.toList) := by
  unfold compT at h
  show (gt (.fz d) ρ).bind _ = _
  cases q1 : gt (.fz d) ρ with
  | er x => rw [q1] at h; cases h
  | bad => rw [q1] at h; cases h
  | ok ρ1 =>
    rw [q1, Res.bind_ok] at h
    rw [Res.bind_ok]
    cases q2 : ft ρ1 with
    | er x => rw [q2] at h; cases h
    | bad => rw [q2] at h; cases h
    | ok b =>
      obtain ⟨b, ρ2⟩ := b
      rw [q2, Res.bind_ok] at h
      rw [Res.bind_ok]
      cases b with
      | false =>
        rw [if_neg Bool.false_ne_true] at h ⊢
        cases h
        rw [Option.toList_none, List.append_nil]
      | true =>
        rw [if_pos rfl] at h ⊢
        cases q3 : fe ρ2 with
        | er x => rw [q3] at h; cases h
        | bad => rw [q3] at h; cases h
        | ok a =>
          rw [q3, Res.bind_ok] at h
          rw [Res.bind_ok]
          cases q4 : toD a.2 a.1 with
          | none => rw [q4] at h; cases h
          | some x =>
            rw [q4] at h
            cases h
            show (if acc.length < 1000000 then _ else _) = _
            rw [if_pos hl]
            rfl
theorem atI_nd {α : Type} {xs : List α} {i : Nat} {v : α} (h : xs[i]? = some v) : atI xs (i : Int) = some v := atI_nat h
theorem ixL {ds : List D} {i : Nat} {d : D} (h : ds[i]? = some d) : ixD (.list ds) (nd i) = some (.fz d) := by
  show (atI ds (i : Int)).map RV.fz = _
  rw [atI_nd h]; rfl
end L3
namespace L3
open PySem L2
section
variable {ρ ρ1 ρ2 ρ3 : PEnv} {fa fb fc fe : FE} {pa pb pv : PV} {dx dy d : D} {rv : RV} {ps : List PV} {ds : List D}
theorem ev_var {i : Nat} (h : ρ[i]? = some (some (.fz d))) : pVar i ρ = .ok (.fz d, ρ) := by rw [var_eq, h, var_fz]
theorem ev_own {i : Nat} (h : ρ[i]? = some (some (.ow ds))) : pVar i ρ = .ok (.pl i, ρ) := by rw [var_eq, h, var_ow]
theorem ev_c : pC d ρ = .ok (.fz d, ρ) := rfl
theorem ev_op {f : D → D → Option RV} (ha : fa ρ = .ok (pa, ρ1)) (hb : fb ρ1 = .ok (pb, ρ2)) (hx : rdD ρ2 (settle pa) = some dx) (hy : rdD ρ2 pb = some dy) (hf : f dx dy = some rv) : pOp f fa fb ρ = .ok (rv.pv, ρ2) := by
  unfold pOp
  rw [ha, Res.bind_ok, hb, Res.bind_ok, hx, ofO_some, Res.bind_ok, hy, ofO_some, Res.bind_ok, hf, ofO_some, Res.bind_ok]
theorem ev_bool {b : Bool} (ha : fa ρ = .ok (pa, ρ1)) (hx : rdD ρ1 pa = some (.bool b)) : pBool fa ρ = .ok (b, ρ1) := by
  unfold pBool
  rw [ha, Res.bind_ok, hx, ofO_some, Res.bind_ok, asB_bool, ofO_some, Res.bind_ok]
theorem ev_qand {f g : FT} {a b : Bool} (ha : f ρ = .ok (a, ρ1)) (hb : a = true → g ρ1 = .ok (b, ρ1)) : qAnd f g ρ = .ok (a && b, ρ1) := by
  unfold qAnd
  rw [ha, Res.bind_ok]
  cases a with
  | true => rw [if_pos rfl, hb rfl, Bool.true_and]
  | false => rw [if_neg Bool.false_ne_true, Bool.false_and]
theorem ev_qor {f g : FT} {a b : Bool} (ha : f ρ = .ok (a, ρ1)) (hb : a = false → g ρ1 = .ok (b, ρ1)) : qOr f g ρ = .ok (a || b, ρ1) := by
  unfold qOr
  rw [ha, Res.bind_ok]
  cases a with
  | true => rw [if_pos rfl, Bool.true_or]
  | false => rw [if_neg Bool.false_ne_true, hb rfl, Bool.false_or]
theorem ev_por {a b : Bool} (ha : pBool fa ρ = .ok (a, ρ1)) (hb : a = false → fb ρ1 = .ok (.fz (.bool b), ρ1)) : pOr fa fb ρ = .ok (.fz (.bool (a || b)), ρ1) := by
  unfold pOr
  rw [ha, Res.bind_ok]
  cases a with
  | true => rw [if_pos rfl, Bool.true_or]
  | false => rw [if_neg Bool.false_ne_true, hb rfl, Bool.false_or]
theorem ev_nil : aNil ρ = .ok ([], ρ) := rfl
theorem ev_cons {fr : FA} (ha : fa ρ = .ok (pa, ρ1)) (hr : fr ρ1 = .ok (ps, ρ2)) : aCons fa fr ρ = .ok (settle pa :: ps, ρ2) := by
  unfold aCons
  rw [ha, Res.bind_ok, hr, Res.bind_ok]
theorem ev_cb {f : List D → Option RV} {fr : FA} (ha : fr ρ = .ok (ps, ρ1)) (hd : rdDs ρ1 ps = some ds) (hf : f ds = some rv) : pCB f fr ρ = .ok (rv.pv, ρ1) := by
  unfold pCB
  rw [ha, Res.bind_ok, hd, ofO_some, Res.bind_ok, hf, ofO_some, Res.bind_ok]
theorem ev_cal {F : FN} {n : Nat} {fr : FA} (ha : fr ρ = .ok (ps, ρ1)) (hd : toDs ρ1 ps = some (ds, ρ2)) (hn : ds.length = n) (hF : F ds = .ok rv) : pCal F n fr ρ = .ok (rv.pv, ρ2) := by
  unfold pCal
  rw [ha, Res.bind_ok, hd, ofO_some, Res.bind_ok]
  dsimp only
  rw [if_pos hn, hF, noEr_okk, Res.bind_ok]
theorem ev_tup {fr : FA} (ha : fr ρ = .ok (ps, ρ1)) (hd : toDs ρ1 ps = some (ds, ρ2)) (hn : ds.length ≤ 1000) : pTup fr ρ = .ok (.fz (.tuple ds), ρ2) := by
  unfold pTup
  rw [ha, Res.bind_ok, hd, ofO_some, Res.bind_ok]
  dsimp only
  rw [if_pos hn]
theorem ev_lst {fr : FA} (ha : fr ρ = .ok (ps, ρ1)) (hd : toDs ρ1 ps = some (ds, ρ2)) (hn : ds.length ≤ 1000) : pLst fr ρ = .ok (.ow ds, ρ2) := by
  unfold pLst
  rw [ha, Res.bind_ok, hd, ofO_some, Res.bind_ok]
  dsimp only
  rw [if_pos hn]
theorem ev_onone : oNone ρ = .ok (none, ρ) := rfl
theorem ev_osome {i : Int} (ha : fa ρ = .ok (pa, ρ1)) (hx : rdD ρ1 pa = some (.int i)) : oSome fa ρ = .ok (some i, ρ1) := by
  unfold oSome
  rw [ha, Res.bind_ok, hx, ofO_some, Res.bind_ok, asI_int, ofO_some, Res.bind_ok]
theorem ev_sl {f : D → Option Int → Option Int → Option RV} {fl fh : FO} {lo hi : Option Int} (ha : fa ρ = .ok (pa, ρ1)) (hl : fl ρ1 = .ok (lo, ρ2)) (hh : fh ρ2 = .ok (hi, ρ3)) (hx : rdD ρ3 (settle pa) = some dx) (hf : f dx lo hi = some rv) : pSl f fa fl fh ρ = .ok (rv.pv, ρ3) := by
  unfold pSl
  rw [ha, Res.bind_ok, hl, Res.bind_ok, hh, Res.bind_ok, hx, ofO_some, Res.bind_ok, hf, ofO_some, Res.bind_ok]
theorem ev_app {i : Nat} {es : List D} {x : PEnv} (h0 : ρ[i]? = some (some (.ow es))) (ha : fe ρ = .ok (pa, ρ1)) (ht : toD ρ1 pa = some (d, ρ2)) (h1 : ρ2[i]? = some (some (.ow ds))) (hl : ds.length < 1000000) (hx : ρ2.set i (some (.ow (ds ++ [d]))) = x) : pApp i fe ρ = .ok (.fz .none, x) := by
  unfold pApp
  rw [h0, asOw_some, ofO_some, Res.bind_ok, ha, Res.bind_ok, ht, ofO_some, Res.bind_ok]
  dsimp only
  rw [h1, asOw_some, ofO_some, Res.bind_ok, if_pos hl, hx]
theorem ev_comp {n : Nat} {fv : List Nat} {fi : FI} {gt : FG} {ft : FT} {cs xs : List D} (hi : fi ρ = .ok (ds, ρ1)) (hc : captL ρ1 fv = some (cs, ρ2)) (hp : noEr (compP gt ft fe ds (List.replicate n none ++ cs.map fun d => some (.fz d)) []) = .ok xs) : pComp n fv fi gt ft fe ρ = .ok (.ow xs, ρ2) := by
  unfold pComp
  rw [hi, Res.bind_ok]
  dsimp only
  rw [hc, ofO_some, Res.bind_ok]
  dsimp only
  rw [hp, Res.bind_ok]
theorem ixl0 {a : D} {r : List D} : ixD (.list (a :: r)) (.int 0) = some (.fz a) := ixL (i := 0) rfl
theorem ev_iseq {es : List D} (ha : fe ρ = .ok (pa, ρ1)) (ht : toD ρ1 pa = some (d, ρ2)) (hs : asSeq d = some es) : iSeq fe ρ = .ok (es, ρ2) := by
  unfold iSeq
  rw [ha, Res.bind_ok, ht, ofO_some, Res.bind_ok]
  dsimp only
  rw [hs, ofO_some, Res.bind_ok]
theorem ev_irng {f : List D → Option (List D)} {fr : FA} {es : List D} (ha : fr ρ = .ok (ps, ρ1)) (hd : rdDs ρ1 ps = some ds) (hf : f ds = some es) : iRng f fr ρ = .ok (es, ρ1) := by
  unfold iRng
  rw [ha, Res.bind_ok, hd, ofO_some, Res.bind_ok, hf, ofO_some, Res.bind_ok]
theorem st_asg {g : FG} (he : fe ρ = .ok (pv, ρ1)) (hg : g pv ρ1 = .ok ρ2) (hn : ρ2 = ρ3) : sAsg fe g ρ = .ok (.nx ρ3) := by
  unfold sAsg
  rw [he, Res.bind_ok]
  dsimp only
  rw [hg, Res.bind_ok, hn]
theorem st_drop (he : fe ρ = .ok (pv, ρ1)) : sDrop fe ρ = .ok (.nx ρ1) := by
  unfold sDrop
  rw [he, Res.bind_ok]
theorem st_ret (he : fe ρ = .ok (pv, ρ1)) (hr : retV ρ1 pv = some rv) : sRet fe ρ = .ok (.rt rv) := by
  unfold sRet
  rw [he, Res.bind_ok]
  dsimp only
  rw [hr, ofO_some, Res.bind_ok]
theorem ct_t {gt : FG} {ft : FT} {x : D} (hg : gt (.fz d) ρ = .ok ρ1) (ht : ft ρ1 = .ok (true, ρ2)) (he : fe ρ2 = .ok (pv, ρ3)) {ρ4 ρ5 : PEnv} (hx : toD ρ3 pv = some (x, ρ4)) (hf : forget ρ4 = ρ5) : compT gt ft fe d ρ = .ok (some x, ρ5) := by
  unfold compT
  rw [hg, Res.bind_ok, ht, Res.bind_ok, if_pos rfl, he, Res.bind_ok, hx, ofO_some, Res.bind_ok, hf]
end
end L3
namespace PySem
open Sem (wp)
open Builtin
open AutoSeq1 (wpAny_loadPart')
theorem noFill_tuple_mul : fillsNumberSlot (.type "tuple") "mul" = pure false :=
  fillsNumberSlot_seq (id := "tuple.__mul__") (r := some (.builtin "tuple.__rmul__")) F.slot_tuple_mul.lookup (by decide +kernel) F.slot_tuple_rmul.lookup (by decide +kernel)
theorem repeat_tuple : seqRepeat? (.type "tuple") = pure (some (.builtin "tuple.__mul__")) := by
  unfold seqRepeat?
  rw [seqSlot_of (T := "tuple") (name := "__mul__") (id := "tuple.__mul__") F.slot_tuple_mul.lookup (by decide +kernel), seqSlot_of (T := "tuple") (name := "__rmul__") (id := "tuple.__rmul__") F.slot_tuple_rmul.lookup (by decide +kernel)]
  rfl
theorem int_rmul_tuple (a : Int) (t : Tok) (l : Addr) (items : Array Value) (n : Nat) (dct : Option Addr) (sl : Array (Option Value)) :
    Meets (Builtin.«int.__rmul__» ⟨[.int a t, .ref l], []⟩) (fun _ R s => s.heap.get? l = some { cls := .type "tuple", dict := dct, data := .seq items n, slots := sl } ∧ R (.ok (.ret Value.notImplemented)) s) :=
  .of_wp fun prog w A R s h => by obtain ⟨hp, g, d, tk, os⟩ := s; obtain ⟨hl, h⟩ := h; wp_walk; exact ⟨_, rfl, h⟩
theorem tuple_mulW1 (l : Addr) (items : Array Value) (n : Nat) (dct : Option Addr) (sl : Array (Option Value)) (u : Tok) :
    Meets (Builtin.«tuple.__mul__» ⟨[.ref l, .int 1 u], []⟩) (fun _ R s => s.heap.get? l = some { cls := .type "tuple", dict := dct, data := .seq items n, slots := sl } ∧ R (.ok (.ret (Value.ref l))) s) :=
  .of_wp fun prog w A R s h => by
    obtain ⟨hp, g, d, tk, os⟩ := s; obtain ⟨hl, h⟩ := h
    wp_walk
    exact ⟨_, rfl, h⟩
theorem tuple_mulW2 (l : Addr) (items : Array Value) (n : Nat) (dct : Option Addr) (sl : Array (Option Value)) (x : Int) (u : Tok) (h1 : 2 ≤ x) (h2 : x ≤ 1000) (hne : items.isEmpty = false) (hz : items.size ≤ 1000) :
    Meets (Builtin.«tuple.__mul__» ⟨[.ref l, .int x u], []⟩) (fun _ R s => s.heap.get? l = some { cls := .type "tuple", dict := dct, data := .seq items n, slots := sl } ∧ R (.ok (.ret (Value.ref s.heap.objs.size))) { s with heap := s.heap.push { cls := Value.type "tuple", data := Data.seq (List.foldl (fun x1 x2 => x1 ++ x2) #[] (List.replicate x.toNat items)) }, toks := s.toks }) :=
  .of_wp fun prog w A R s h => by
    obtain ⟨hp, g, d, tk, os⟩ := s; obtain ⟨hl, h⟩ := h
    have c1 : ¬ (decide (x < -(2 ^ 63)) || decide (x ≥ 2 ^ 63)) = true := by simp; omega
    have c2 : (x == 1) = false := by simp; omega
    have c3 : decide (x ≤ 0) = false := by simp; omega
    have c0 : (items.isEmpty || x == 1) = false := by rw [hne, c2]; rfl
    have c4 : (decide (x ≤ 0) || items.isEmpty) = false := by rw [hne, c3]; rfl
    have hmul : (items.size : Int) * x ≤ 1000000 := by
      have : (items.size : Int) * x ≤ 1000 * 1000 := Int.mul_le_mul (by omega) h2 (by omega) (by omega)
      omega
    have c5 : ¬ (items.size : Int) * x > (2 ^ 63 - 1) / 8 := by omega
    have c6 : ¬ Tuple.tupleTooMany ((items.size : Int) * x) = true := by
      unfold Tuple.tupleTooMany
      simp
      have : (sizeLine : Nat) = 16777216 := by decide
      omega
    wp_walk
    rw [if_neg c1]
    wp_walk using wpAny_loadPart' hl
    rw [if_neg c5]
    dsimp only
    rw [if_neg c6]
    have hz2 : (List.foldl (fun x1 x2 => x1 ++ x2) #[] (List.replicate x.toNat items)).size ≤ sizeLine := by
      have f0 : ∀ (m : Nat) (b : Array Value), (List.foldl (fun x1 x2 => x1 ++ x2) b (List.replicate m items)).size = b.size + m * items.size := by
        intro m
        induction m with
        | zero => intro b; simp
        | succ m ih => intro b; rw [List.replicate_succ, List.foldl_cons, ih, Array.size_append, Nat.succ_mul]; omega
      rw [f0]
      have h3 : x.toNat * items.size ≤ 1000 * 1000 := Nat.mul_le_mul (by omega) hz
      have : (sizeLine : Nat) = 16777216 := by decide
      simp
      omega
    wp_walk
    exact ⟨_, rfl, h⟩
end PySem
namespace L3
open PySem PySem.Spec PyProof.Rows L2
noncomputable def rRepT (K : PySem.W.Frag) : R2 := fun x y H Q => ∃ (a : Addr) (k : Nat) (xs : List V), x = .ref a ∧ y = .int (k : Int) ∧ SqT K H a xs ∧ xs ≠ [] ∧ 1 ≤ k ∧ k ≤ 1000 ∧ xs.length ≤ 1000 ∧
  (k = 1 → Q (.ref a) H) ∧ (2 ≤ k → ∀ p, H p = none → Q (.ref p) (upd H p (.tup (List.replicate k xs).flatten)))
theorem op_repT {X : Cx} : OpR X (binaryOp .Mult) (rRepT X.K) := by
  intro pins s σ H x y v u Q I rx ry h
  obtain ⟨a, k, xs, rfl, rfl, hx, hne, h1, h2, hl, q1, q2⟩ := h
  cases rx
  obtain ⟨t, rfl⟩ := ry
  obtain ⟨its, r, ht, hz⟩ := I.tuple hx
  obtain ⟨⟨cls, dd, data, sl⟩, ho, hc, n, hd⟩ := id ht
  simp only at hc hd
  subst hc hd
  have hlen := r.length
  refine wpAny_binaryOp_repeat_ref (T := "tuple") (U := "int") (by decide) ⟨_, ho, rfl⟩ (fun s' => typeIs_int s' k t) noFill_tuple_mul F.fills_int_mul F.slot_int_rmul repeat_tuple F.slot_int_index.lookup
    (call_meets F.slot_int_rmul (typeIs_int s k t) F.entry_int_rmul (F.args_int_rmul_2 _ _) (int_rmul_tuple k t a its.toArray n dd sl) ⟨ho, rfl, ⟨_, ho, rfl⟩, ?_⟩)
  by_cases hk : k = 1
  · subst hk
    exact call_meets F.slot_tuple_mul ⟨_, ho, rfl⟩ F.entry_tuple_mul (F.args_tuple_mul_2 _ _) (tuple_mulW1 a its.toArray n dd sl t) ⟨ho, ⟨.ref a, H, I, rfl, q1 rfl⟩⟩
  · refine call_meets F.slot_tuple_mul ⟨_, ho, rfl⟩ F.entry_tuple_mul (F.args_tuple_mul_2 _ _) (tuple_mulW2 a its.toArray n dd sl k t (by omega) (by omega) ?_ (by rw [List.size_toArray]; omega)) ⟨ho, ?_⟩
    · cases its with
      | nil => cases r; exact absurd rfl hne
      | cons y ys => rfl
    · have f0 : List.foldl (fun x1 x2 => x1 ++ x2) #[] (List.replicate ((k : Nat) : Int).toNat its.toArray) = (List.replicate k its).flatten.toArray := by
        have := foldl_rep its k []
        rw [List.nil_append] at this
        rw [Int.toNat_natCast]
        exact this
      rw [f0]
      refine ⟨.ref s.heap.objs.size, _, I.laid (t' := s.toks) (o := .tup (List.replicate k xs).flatten) (fun b ob q => Heap.get?_push_of_some _ q) (Nat.le_refl _) ?_, rfl, q2 (by omega) _ (I.hok.fresh (Nat.le_refl _))⟩
      refine ⟨?_, _, r.rep k, TupX.new _ _⟩
      rw [len_rep]
      exact Nat.le_trans (Nat.mul_le_mul h2 hl) (by decide)
noncomputable def rMulB (K : PySem.W.Frag) : R2 := fun x y H Q => rMulA K x y H Q ∨ rRepT K x y H Q
theorem op_mulB {X : Cx} : OpR X (binaryOp .Mult) (rMulB X.K) := OpR.or op_mulA op_repT
noncomputable def mulE : D → D → Option RV
  | .tuple xs, .int k => if xs ≠ [] ∧ 1 ≤ k ∧ k ≤ 1000 ∧ xs.length ≤ 1000 then some (.fz (.tuple (List.replicate k.toNat xs).flatten)) else none
  | d, e => mulD d e
theorem opp_mulE {K : PySem.W.Frag} : OpP K (rMulB K) mulE := by
  intro O H x y dx dy rv Q n hx hy e q
  unfold mulE at e
  split at e
  · rename_i ds k
    split at e
    · rename_i hc
      cases e
      cases hy
      obtain ⟨a, xs, rfl, h1, h2⟩ := DXt hx
      obtain ⟨m, rfl⟩ : ∃ m : Nat, k = (m : Int) := ⟨k.toNat, by omega⟩
      rw [Int.toNat_natCast] at q
      refine .inr ⟨a, m, xs, rfl, rfl, h1.1, fun z => hc.1 (h2.ne.mp z), by omega, by omega, by rw [h2.length]; exact hc.2.2.2, fun e => ?_, fun _ => Fin.newT (h2.flat m) n q⟩
      subst e
      have e1 : (List.replicate 1 ds).flatten = ds := by simp
      rw [e1] at q
      exact q.at (.tup h1 h2)
    · cases e
  · exact .inl (opp_mul O H x y dx dy rv Q n hx hy e q)
theorem mulE_int (i j : Int) : mulE (.int i) (.int j) = mulD (.int i) (.int j) := rfl
theorem trE_mulL {i j : Int} (h : -(2 ^ 64) < i ∧ i < 2 ^ 64) : mulE (.int i) (.int j) = some (.fz (.int (i * j))) := (mulE_int i j).trans (tr_mulL h)
end L3
namespace PySem
open Sem (wp)
open Builtin Builtin.Str
section
variable {prog : Program} {w : World} {A : Around} {E : Value → Shared → Prop} {s : Shared}
end
end PySem
namespace PySem
open Sem (wp)
open Builtin Builtin.Str
section
variable {prog : Program} {w : World} {A : Around} {E : Value → Shared → Prop} {s : Shared}
end
section
variable {prog : Program} {w : World} {A : Around} {E : Value → Shared → Prop} {s : Shared}
end
end PySem
namespace L3
open PySem PySem.Spec PyProof.Rows L2
section
variable {X : Cx} {a b c e : Expr} {ta tb tc td : TE} {k : Nat} {pos : Pos}
end
section
variable {K : PySem.W.Frag} {E : XK} {B O O' : Own} {H0 H H' : Hp} {σ : L2.St} {ρ ρ' : PEnv} {v : V}
noncomputable def ixS (d e : D) : Option RV := match d, e with
  | .str z, .int i => if z.length ≤ 1000000 then (atI z.cps.toList i).map fun c => .fz (.str ⟨#[c]⟩) else none
  | _, _ => none
theorem opp_ixS : OpP K (rIx K) ixS := by
  intro O H x y dx dy rv Q n hx hy e q
  unfold ixS at e
  split at e
  · split at e
    · rename_i z i hl
      cases qa : atI z.cps.toList i with
      | none => rw [qa] at e; cases e
      | some c =>
        rw [qa] at e
        cases e
        cases hx; cases hy
        exact .inr (.inr ⟨z, i, c, rfl, rfl, le1e6 hl, qa, q.at (.str _)⟩)
    · cases e
  · cases e
end
end L3
namespace L3
open PySem L2
noncomputable def GoD (N C : PEnv → Prop) (T : RV → Prop) : Res Fl → Prop
  | .ok (.nx ρ) => N ρ
  | .ok (.ct ρ) => C ρ
  | .ok (.rt v) => T v
  | _ => False
structure Go (r : Res Fl) (N C : PEnv → Prop) (T : RV → Prop) : Prop where
  out : GoD N C T r
section
variable {ρ ρ1 ρ2 ρ3 : PEnv} {f g : FS} {fe : FE} {pv : PV} {d : D} {rv : RV} {ds : List D} {N C : PEnv → Prop} {T : RV → Prop}
theorem Go.eq {r r' : Res Fl} (e : r = r') (h : Go r' N C T) : Go r N C T := by rw [e]; exact h
theorem Go.imp {r : Res Fl} {N' C' : PEnv → Prop} {T' : RV → Prop} (h : Go r N C T) (hN : ∀ ρ, N ρ → N' ρ) (hC : ∀ ρ, C ρ → C' ρ) (hT : ∀ v, T v → T' v) : Go r N' C' T' := by
  refine ⟨?_⟩
  have h := h.out
  cases r with
  | bad => exact h
  | er x => exact h
  | ok fl =>
    cases fl with
    | nx r => exact hN _ h
    | ct r => exact hC _ h
    | rt v => exact hT _ h
    | bk r => exact h
theorem go_seq (h : Go (f ρ) (fun r => Go (g r) N C T) C T) : Go (sSeq f g ρ) N C T := by
  refine ⟨?_⟩
  have h := h.out
  unfold sSeq
  cases q : f ρ with
  | bad => rw [q] at h; exact h.elim
  | er x => rw [q] at h; exact h.elim
  | ok fl =>
    rw [q] at h
    cases fl with
    | nx r => exact (show Go (g r) N C T from h).out
    | ct r => exact h
    | rt v => exact h
    | bk r => exact h.elim
theorem go_if {c : FT} {b : Bool} (hc : c ρ = .ok (b, ρ1)) (ht : b = true → Go (f ρ1) N C T) (hf : b = false → Go (g ρ1) N C T) : Go (sIf c f g ρ) N C T := by
  unfold sIf
  rw [hc, Res.bind_ok]
  cases b with
  | true => exact ht rfl
  | false => exact hf rfl
theorem go_asg {gt : FG} (he : fe ρ = .ok (pv, ρ1)) (hg : gt pv ρ1 = .ok ρ2) (h : N ρ2) : Go (sAsg fe gt ρ) N C T := .eq (st_asg he hg rfl) ⟨h⟩
theorem go_drop (he : fe ρ = .ok (pv, ρ1)) (h : N ρ1) : Go (sDrop fe ρ) N C T := .eq (st_drop he) ⟨h⟩
theorem go_ret (he : fe ρ = .ok (pv, ρ1)) (hr : retV ρ1 pv = some rv) (h : T rv) : Go (sRet fe ρ) N C T := .eq (st_ret he hr) ⟨h⟩
theorem go_next (h : N ρ) : Go (sNext ρ) N C T := ⟨h⟩
theorem forP_go {gt : FG} {b : FS} (I : Nat → PEnv → Prop) : ∀ (ds : List D) (k : Nat) (ρ : PEnv), I k ρ → (∀ i d ρ, ds[i]? = some d → I (k + i) ρ → ∃ ρ1, gt (.fz d) ρ = .ok ρ1 ∧ Go (b ρ1) (I (k + i + 1)) (I (k + i + 1)) T) → Go (forP gt b ds ρ) (I (k + ds.length)) C T
  | [], k, ρ, h0, _ => ⟨h0⟩
  | d :: r, k, ρ, h0, hs => by
    obtain ⟨ρ1, h1, h2⟩ := hs 0 d ρ rfl h0
    have h2 := h2.out
    have rest : ∀ ρ', I (k + 1) ρ' → Go (forP gt b r ρ') (I (k + (r.length + 1))) C T := fun ρ' h => by
      have e : k + (r.length + 1) = k + 1 + r.length := by omega
      rw [e]
      refine forP_go I r (k + 1) ρ' h fun i d' ρ'' hi hI => ?_
      have e : k + 1 + i = k + (i + 1) := by omega
      rw [e] at hI ⊢
      exact hs (i + 1) d' ρ'' (by simpa using hi) hI
    refine ⟨?_⟩
    show GoD _ _ _ ((gt (.fz d) ρ).bind _)
    rw [h1, Res.bind_ok]
    cases q : b ρ1 with
    | bad => rw [q] at h2; exact h2.elim
    | er x => rw [q] at h2; exact h2.elim
    | ok fl =>
      rw [q] at h2
      cases fl with
      | nx r => exact (rest _ h2).out
      | ct r => exact (rest _ h2).out
      | rt v => exact h2
      | bk r => exact h2.elim
theorem go_for {fi : FI} {gt : FG} {b : FS} (I : Nat → PEnv → Prop) (hi : fi ρ = .ok (ds, ρ1)) (h0 : I 0 ρ1) (hs : ∀ i d ρ, ds[i]? = some d → I i ρ → ∃ ρ1, gt (.fz d) ρ = .ok ρ1 ∧ Go (b ρ1) (I (i + 1)) (I (i + 1)) T) (hN : ∀ ρ', I ds.length ρ' → N ρ') : Go (sFor fi gt b ρ) N C T := by
  have := forP_go (C := C) (T := T) I ds 0 ρ1 h0 (by simpa using hs)
  rw [Nat.zero_add] at this
  exact .eq (for_of hi) (this.imp hN (fun _ h => h) fun _ h => h)
theorem go_run {n : Nat} {g : FS} {T : RV → Prop} (hρ : ds.map (fun d => some (.fz d)) ++ List.replicate (n - ds.length) none = ρ) (h : Go (g ρ) (fun _ => T (.fz .none)) (fun _ => False) T) : ∃ rv, runF n g ds = .ok rv ∧ T rv := by
  have h := h.out
  unfold runF
  rw [hρ]
  cases q : g ρ with
  | bad => rw [q] at h; exact h.elim
  | er x => rw [q] at h; exact h.elim
  | ok fl =>
    rw [q] at h
    cases fl with
    | nx r => exact ⟨_, rfl, h⟩
    | ct r => exact h.elim
    | rt v => exact ⟨_, rfl, h⟩
    | bk r => exact h.elim
theorem go_val {n : Nat} {g : FS} {v : RV} (hρ : ds.map (fun d => some (.fz d)) ++ List.replicate (n - ds.length) none = ρ) (h : Go (g ρ) (fun _ => RV.fz .none = v) (fun _ => False) (fun r => r = v)) : runF n g ds = .ok v := by
  obtain ⟨rv, h1, h2⟩ := go_run (T := fun r => r = v) hρ h
  rw [h1, h2]
theorem gs_asg {gt : FG} (he : fe ρ = .ok (pv, ρ1)) (hg : gt pv ρ1 = .ok ρ2) (hn : ρ2 = ρ3) (h : Go (g ρ3) N C T) : Go (sSeq (sAsg fe gt) g ρ) N C T := .eq (seq_nx (st_asg he hg hn)) h
theorem gl_asg {gt : FG} (he : fe ρ = .ok (pv, ρ1)) (hg : gt pv ρ1 = .ok ρ2) (hn : ρ2 = ρ3) (h : N ρ3) : Go (sAsg fe gt ρ) N C T := .eq (st_asg he hg hn) ⟨h⟩
theorem gs_drop (he : fe ρ = .ok (pv, ρ1)) (h : Go (g ρ1) N C T) : Go (sSeq (sDrop fe) g ρ) N C T := .eq (seq_nx (st_drop he)) h
theorem gs_ret (he : fe ρ = .ok (pv, ρ1)) (hr : retV ρ1 pv = some rv) (h : T rv) : Go (sSeq (sRet fe) g ρ) N C T := .eq (seq_rt (st_ret he hr)) ⟨h⟩
theorem gs_next (h : Go (g ρ) N C T) : Go (sSeq sNext g ρ) N C T := .eq rfl h
theorem gs_if {c : FT} {f1 f2 : FS} {b : Bool} (hc : c ρ = .ok (b, ρ1)) (ht : b = true → Go (sSeq f1 g ρ1) N C T) (hf : b = false → Go (sSeq f2 g ρ1) N C T) : Go (sSeq (sIf c f1 f2) g ρ) N C T := by
  have e : sSeq (sIf c f1 f2) g ρ = if b = true then sSeq f1 g ρ1 else sSeq f2 g ρ1 := by
    unfold sSeq sIf
    rw [hc, Res.bind_ok]
    cases b <;> rfl
  refine .eq e ?_
  cases b with
  | true => exact ht rfl
  | false => exact hf rfl
theorem gs_for {fi : FI} {gt : FG} {b : FS} (I : Nat → PEnv → Prop) (hi : fi ρ = .ok (ds, ρ1)) (h0 : I 0 ρ1) (hs : ∀ i d ρ, ds[i]? = some d → I i ρ → ∃ ρ1, gt (.fz d) ρ = .ok ρ1 ∧ Go (b ρ1) (I (i + 1)) (I (i + 1)) T) (hN : ∀ ρ', I ds.length ρ' → Go (g ρ') N C T) : Go (sSeq (sFor fi gt b) g ρ) N C T :=
  go_seq (go_for I hi h0 hs hN)
theorem compP_map {gt : FG} {ft : FT} {fe : FE} (I : PEnv → Prop) (P : Nat → D → Prop) : ∀ (ds : List D) (k : Nat) (ρ : PEnv) (acc : List D), I ρ → acc.length + ds.length ≤ 1000000 → (∀ i d, ds[i]? = some d → ∀ ρ, I ρ → ∃ x ρ', compT gt ft fe d ρ = .ok (some x, ρ') ∧ I ρ' ∧ P (k + i) x) →
    ∃ xs, compP gt ft fe ds ρ acc = .ok (acc ++ xs) ∧ xs.length = ds.length ∧ ∀ i x, xs[i]? = some x → P (k + i) x
  | [], k, ρ, acc, _, _, _ => ⟨[], by show Res.ok acc = _; simp, rfl, fun i x h => by simp at h⟩
  | d :: r, k, ρ, acc, h0, hl, hs => by
    obtain ⟨x, ρ', h1, h2, h3⟩ := hs 0 d rfl ρ h0
    rw [List.length_cons] at hl
    obtain ⟨xs, g1, g2, g3⟩ := compP_map I P r (k + 1) ρ' (acc ++ [x]) h2 (by rw [List.length_append]; simp; omega) fun i d' hi ρ'' hI => by
      have e : k + 1 + i = k + (i + 1) := by omega
      rw [e]
      exact hs (i + 1) d' (by simpa using hi) ρ'' hI
    refine ⟨x :: xs, ?_, by rw [List.length_cons, g2, List.length_cons], fun i y hy => ?_⟩
    · rw [compP_step h1 (by omega)]
      show compP gt ft fe r ρ' (acc ++ [x]) = _
      rw [g1, List.append_assoc]
      rfl
    · cases i with
      | zero => cases (show some x = some y from hy); exact h3
      | succ i =>
        have e : k + (i + 1) = k + 1 + i := by omega
        rw [e]
        exact g3 i y (by simpa using hy)
theorem comp_map {gt : FG} {ft : FT} {fe : FE} (I : PEnv → Prop) (P : Nat → D → Prop) (h0 : I ρ) (hl : ds.length ≤ 1000000) (hs : ∀ i d, ds[i]? = some d → ∀ ρ, I ρ → ∃ x ρ', compT gt ft fe d ρ = .ok (some x, ρ') ∧ I ρ' ∧ P i x) :
    ∃ xs, noEr (compP gt ft fe ds ρ []) = .ok xs ∧ xs.length = ds.length ∧ ∀ i x, xs[i]? = some x → P i x := by
  obtain ⟨xs, g1, g2, g3⟩ := compP_map I P ds 0 ρ [] h0 (by simpa using hl) (by simpa using hs)
  exact ⟨xs, by rw [g1]; rfl, g2, by simpa using g3⟩
theorem atI_int {α : Type} {xs : List α} {i : Int} {v : α} (h0 : 0 ≤ i) (h : xs[i.toNat]? = some v) : atI xs i = some v := atI_nn h0 h
theorem rng1_i {n : Int} (h0 : 0 ≤ n) (h : n ≤ 1000000) : rng1 [.int n] = some (nds (List.range n.toNat)) := by
  rw [rng1_ok (by unfold small62; omega), from_nds]
theorem ev_opb {f : D → D → Option RV} {fa fb : FE} {pa pb : PV} {dx dy : D} {b : Bool} (ha : fa ρ = .ok (pa, ρ1)) (hb : fb ρ1 = .ok (pb, ρ2)) (hx : rdD ρ2 (settle pa) = some dx) (hy : rdD ρ2 pb = some dy) (hf : f dx dy = some (.fz (.bool b))) : pOp f fa fb ρ = .ok (.fz (.bool b), ρ2) := ev_op (rv := .fz (.bool b)) ha hb hx hy hf
theorem ev_calb {F : FN} {n : Nat} {fr : FA} {ps : List PV} {b : Bool} (ha : fr ρ = .ok (ps, ρ1)) (hd : toDs ρ1 ps = some (ds, ρ2)) (hn : ds.length = n) (hF : F ds = .ok (.fz (.bool b))) : pCal F n fr ρ = .ok (.fz (.bool b), ρ2) := ev_cal (rv := .fz (.bool b)) ha hd hn hF
end
end L3
namespace L3
open PySem PySem.Spec PyProof.Rows L2 PySem.Builtin PySem.Builtin.Str
section
variable {X : Cx}
end
end L3
namespace L3
open PySem PySem.Spec PyProof.Rows L2 PySem.Builtin PySem.Builtin.Str
section
variable {X : Cx}
end
end L3
namespace L3
open PySem PySem.Spec PyProof.Rows L2 PySem.Builtin PySem.Builtin.Str
section
variable {X : Cx}
end
end L3
namespace L3
open PySem PySem.Spec PyProof.Rows L2 PySem.Builtin PySem.Builtin.Str
section
variable {K : PySem.W.Frag} {E : XK} {B O O' : Own} {H0 H H' : Hp} {σ : L2.St} {ρ ρ' : PEnv} {v : V}
noncomputable def addS : D → D → Option RV
  | .str i, .str j => if i.length + j.length ≤ 1000000 then some (.fz (.str (i ++ j))) else none
  | _, _ => none
theorem opp_addS : OpP K (fun x y H Q => ∃ i j, x = .str i ∧ y = .str j ∧ i.length + j.length ≤ sizeLine ∧ Q (.str (i ++ j)) H) addS := by
  intro O H x y dx dy rv Q n hx hy e q
  unfold addS at e
  split at e
  · split at e
    · rename_i hl
      cases e
      cases hx; cases hy
      exact ⟨_, _, rfl, rfl, le1e6 hl, q.at (.str _)⟩
    · cases e
  · cases e
end
end L3
namespace PySem
open Sem (wp)
open AutoSeq1 (wpAny_loadPart')
open Builtin Builtin.Str
section
variable {prog : Program} {w : World} {A : Around} {E : Value → Shared → Prop} {s : Shared}
end
section
variable {prog : Program} {w : World} {A : Around} {E : Value → Shared → Prop} {s : Shared}
end
end PySem
namespace PySem
open Sem (wp)
open Builtin Builtin.Str
section
variable {M : Model} {A : Around} {E : Value → Shared → Prop} {s : Shared} {env : Env}
end
end PySem
namespace L3
open PySem PySem.Spec PyProof.Rows L2 PySem.Builtin
section
variable {K : PySem.W.Frag} {E : XK} {B O O' : Own} {H0 H H' : Hp} {σ : L2.St} {ρ ρ' : PEnv} {v : V}
end
end L3
namespace L3
open PySem L2
end L3
namespace L2
open PySem PySem.Spec PyProof.Rows
section
variable {X : Cx}
end
end L2
namespace L3
open PySem PySem.Spec L2
section
variable {K : PySem.W.Frag} {E : XK}
end
end L3
namespace L2
open PySem PySem.Spec PyProof.Rows
section
variable {κ : Type} [DecidableEq κ]
noncomputable def valV (kvs : List (κ × V)) (k : κ) : Option V := (kvs.find? fun kv => decide (kv.1 = k)).map (·.2)
noncomputable def putK (kvs : List (κ × V)) (k : κ) (v : V) : List (κ × V) :=
  if (kvs.any fun kv => decide (kv.1 = k)) = true then kvs.map (fun kv => if kv.1 = k then (kv.1, v) else kv) else kvs ++ [(k, v)]
theorem valV_pos {p : κ × V} {r : List (κ × V)} {k : κ} (e : p.1 = k) : valV (p :: r) k = some p.2 := by simp [valV, List.find?_cons, e]
theorem valV_neg {p : κ × V} {r : List (κ × V)} {k : κ} (e : ¬ p.1 = k) : valV (p :: r) k = valV r k := by simp [valV, List.find?_cons, e]
theorem length_putK (kvs : List (κ × V)) (k : κ) (v : V) : (putK kvs k v).length ≤ kvs.length + 1 := by
  unfold putK
  split
  · rw [List.length_map]; omega
  · rw [List.length_append, List.length_cons, List.length_nil]; omega
theorem RelO.isSome_eq {o : Option V} {u : Option Value} (r : RelO o u) : o.isSome = u.isSome := by
  cases o with
  | none => cases u with
    | none => rfl
    | some _ => exact (show False from r).elim
  | some _ => cases u with
    | none => exact (show False from r).elim
    | some _ => rfl
theorem RelO.getD {o : Option V} {u : Option Value} {d : V} {d' : Value} (r : RelO o u) (rd : RelV d d') : RelV (o.getD d) (u.getD d') := by
  cases o with
  | none => cases u with
    | none => exact rd
    | some _ => exact (show False from r).elim
  | some _ => cases u with
    | none => exact (show False from r).elim
    | some _ => exact r
theorem KV.val {kvs : List (κ × V)} {vs : List (κ × Value)} (r : KV kvs vs) (k : κ) : RelO (valV kvs k) (valueAt vs k) := by
  unfold KV at r
  induction r with
  | nil => exact True.intro
  | @cons p q ps qs h t ih =>
    obtain ⟨h1, h2⟩ := h
    by_cases e : p.1 = k
    · have e' : q.1 = k := h1.symm.trans e
      have b : valueAt (q :: qs) k = some q.2 := by simp [valueAt, List.find?_cons, e']
      rw [valV_pos e, b]; exact h2
    · have e' : ¬ q.1 = k := fun z => e (h1.trans z)
      have b : valueAt (q :: qs) k = valueAt qs k := by simp [valueAt, List.find?_cons, e']
      rw [valV_neg e, b]; exact ih
theorem KV.any {kvs : List (κ × V)} {vs : List (κ × Value)} (r : KV kvs vs) (k : κ) : (kvs.any fun kv => decide (kv.1 = k)) = vs.any fun kv => decide (kv.1 = k) := by
  unfold KV at r
  induction r with
  | nil => rfl
  | cons h t ih => rw [List.any_cons, List.any_cons, ih, h.1]
theorem KV.repl {kvs : List (κ × V)} {vs : List (κ × Value)} (r : KV kvs vs) (k : κ) {y : V} {u : Value} (ry : RelV y u) :
    KV (kvs.map fun kv => if kv.1 = k then (kv.1, y) else kv) (vs.map fun kv => if kv.1 = k then (kv.1, u) else kv) := by
  unfold KV at r ⊢
  induction r with
  | nil => exact .nil
  | @cons p q ps qs h t ih =>
    rw [List.map_cons, List.map_cons]
    refine .cons ?_ ih
    obtain ⟨h1, h2⟩ := h
    by_cases e : p.1 = k
    · rw [if_pos e, if_pos (h1.symm.trans e)]; exact ⟨h1, ry⟩
    · rw [if_neg e, if_neg (fun z => e (h1.trans z))]; exact ⟨h1, h2⟩
theorem KV.put {kvs : List (κ × V)} {vs : List (κ × Value)} (r : KV kvs vs) (k : κ) {y : V} {u : Value} (ry : RelV y u) : KV (putK kvs k y) (stored vs k u) := by
  unfold putK stored
  rw [r.any k]
  by_cases e : (vs.any fun kv => decide (kv.1 = k)) = true
  · rw [if_pos e, if_pos e]; exact r.repl k ry
  · rw [if_neg e, if_neg e]; exact Paired.snoc r ⟨rfl, ry⟩
theorem KV.length {kvs : List (κ × V)} {vs : List (κ × Value)} (r : KV kvs vs) : kvs.length = vs.length := Paired.length r
end
theorem kV_is {P : Program} {w : World} {k : Key} {u : Value} (r : RelV (kV k) u) : (mixKind P w).is k u = true := by
  cases k with
  | inl i => obtain ⟨t, e⟩ := (show ∃ t, u = Value.int i t from r); subst e; exact mixKind_int P w i t
  | inr x => obtain ⟨t, e⟩ := (show ∃ t, u = Value.str x t from r); subst e; exact mixKind_str P w x t
theorem items_are {P : Program} {w : World} : ∀ {ks : List Key} {us : List Value}, Vals (ks.map kV) us → ItemsAre (mixKind P w) ks us
  | [], _, r => by rw [List.map_nil] at r; cases r; exact .nil
  | k :: ks, _, r => by
    rw [List.map_cons] at r
    cases r with
    | cons h t => exact .cons (kV_is h) (items_are t)
noncomputable abbrev KT (H : Hp) : List (List Key × V) → List (List Key × Addr × Value) → Prop := Paired fun p q => p.1 = q.1 ∧ H q.2.1 = some (.tup (p.1.map kV)) ∧ RelV p.2 q.2.2
theorem KT.val {H : Hp} {kvs : List (List Key × V)} {xs : List (List Key × Addr × Value)} (r : KT H kvs xs) (k : List Key) : RelO (valV kvs k) ((atKey xs k).map (·.2)) := by
  induction r with
  | nil => exact True.intro
  | @cons p q ps qs h t ih =>
    obtain ⟨h1, _, h2⟩ := h
    by_cases e : p.1 = k
    · have e' : q.1 = k := h1.symm.trans e
      have b : atKey (q :: qs) k = some q.2 := by simp [atKey, List.find?_cons, e']
      rw [valV_pos e, b]; exact h2
    · have e' : ¬ q.1 = k := fun z => e (h1.trans z)
      have b : atKey (q :: qs) k = atKey qs k := by simp [atKey, List.find?_cons, e']
      rw [valV_neg e, b]; exact ih
section
variable {P : Program} {w : World} {H : Hp} {h : Heap} {a : Addr}
theorem rd_of {u : HO} (ok : HOk P w H h) (e : Rd H a u) : ObjOk P w H h a u := e.ok ok
theorem dk_rd {kvs : List (Key × V)} (ok : HOk P w H h) (e : Rd H a (.dK kvs)) : kvs.length ≤ sizeLine ∧ (a == sysModules) = false ∧ ∃ vs, KV kvs vs ∧ h.DictOf (mixKind P w) a vs :=
  show ObjOk P w H h a (.dK kvs) from rd_of ok e
theorem key_of {ks : List Key} (ok : HOk P w H h) (e : H a = some (.tup (ks.map kV))) : (tupleKind (mixKind P w)).is h ks a := by
  obtain ⟨_, its, r, o, h1, ⟨h2, n, h3⟩, _⟩ := (show ObjOk P w H h a (.tup (ks.map kV)) from ok a _ e)
  exact ⟨o, its.toArray, n, h1, h2, h3, by simpa using items_are r⟩
theorem dt_rd {kvs : List (List Key × V)} (ok : HOk P w H h) (e : Rd H a (.dT kvs)) : kvs.length ≤ sizeLine ∧ (a == sysModules) = false ∧
    ∃ xs, KT H kvs xs ∧ h.DictOfH (tupleKind (mixKind P w)) a xs := by
  obtain ⟨z, y, xs, r, o, es, ep, h1, h2, h3, h4, h5⟩ := (show ObjOk P w H h a (.dT kvs) from rd_of ok e)
  refine ⟨z, y, xs, r, o, es, ep, h1, h2, h3, h4, fun x hx => ?_, h5⟩
  have all : ∀ {l : List (List Key × V)} {m : List (List Key × Addr × Value)}, KT H l m → ∀ x ∈ m, (tupleKind (mixKind P w)).is h x.1 x.2.1 := by
    intro l m q
    induction q with
    | nil => intro x hx; exact nomatch hx
    | @cons p q ps qs hq t ih =>
      intro x hx
      rcases List.mem_cons.mp hx with e | hx
      · subst e
        exact key_of ok (by rw [← hq.1]; exact hq.2.1)
      · exact ih x hx
  exact all r x hx
end
noncomputable def DGet (H : Hp) (a : Addr) (y : V) (r : Option V) : Prop :=
  (∃ kvs k, Rd H a (.dK kvs) ∧ y = kV k ∧ r = valV kvs k) ∨ ∃ kvs k b, Rd H a (.dT kvs) ∧ y = .ref b ∧ H b = some (.tup (k.map kV)) ∧ r = valV kvs k
theorem DGet.k {H : Hp} {a : Addr} {kvs : List (Key × V)} {k : Key} (e : H a = some (.dK kvs)) : DGet H a (kV k) (valV kvs k) := .inl ⟨kvs, k, .inl e, rfl, rfl⟩
section
variable {X : Cx} {pins : List (Addr × Obj)} {σ : St} {H : Hp} {s : Shared} {a : Addr} {y v : V} {u r : Value} {o : Option V} {A : Around} {E : Value → Shared → Prop}
theorem Inv.big (I : Inv X pins σ H s) : sysModules < s.heap.objs.size := by
  have h : mainGlobals < s.heap.objs.size := (I.mod.glob.keeps I.bk).lt
  exact Nat.lt_trans (by decide) h
theorem d_write {h' : Heap} {t' : Nat} {ob : HO} (I : Inv X pins σ H s) (mu : Mut (H a)) (hs : Heap.SameBut a s.heap h') (he : ∃ q, h'.get? a = some q) (new : ObjOk X.prog X.w (upd H a ob) h' a ob) :
    Inv X pins σ (upd H a ob) { s with heap := h', toks := t' } :=
  I.write (x := a) (e := a) mu (.inl rfl) (fun b q hb z => (hs.2 b hb).trans z) he new
theorem dk_new {P : Program} {w : World} {H' : Hp} {h' : Heap} {kvs : List (Key × V)} {vs : List (Key × Value)} (z : kvs.length ≤ sizeLine) (hd : (a == sysModules) = false) (rel : KV kvs vs) (dd : h'.DictOf (mixKind P w) a vs) :
    ObjOk P w H' h' a (.dK kvs) := ⟨z, hd, vs, rel, dd⟩
end
section
variable {X : Cx} {pins : List (Addr × Obj)} {σ : St} {H : Hp} {s : Shared} {a : Addr} {kvs : List (Key × V)} {k : Key} {u : Value} {A : Around} {E : Value → Shared → Prop}
end
noncomputable def NoSl (i : Expr) : Prop := ∀ ov iv, subscripted i false ov iv = operate [ov, iv] (getItem ov iv)
theorem subD_of {prog : Program} {w : World} {A : Around} {E : Value → Shared → Prop} {s : Shared} {env : Env} {value slice : Expr} {pos : Pos} {T id : String} {Q : Value → Shared → Prop}
    (hl : typeLookup (.type T) "__getitem__" = pure (some (.builtin id))) (hs : NoSl slice)
    (h : wpAny (model prog w) A (eval value env) (fun o s₁ => wpAny (model prog w) A (eval slice env) (fun i s₂ => s₂.TypeIs o T ∧ wpAny (model prog w) A (getItem o i) Q E s₂) E s₁) E s) :
    wpAny (model prog w) A (eval (.Subscript value slice pos) env) Q E s := by
  refine Subscript_ (wpAny_mono h (fun o s₁ h₁ => wpAny_mono h₁ (fun i s₂ h₂ => ?_) fun _ _ x => x) fun _ _ x => x)
  obtain ⟨hT, h₂⟩ := h₂
  unfold subscriptTail
  refine wpAny_bind ?_
  rw [getitemInPython_of_ne hT.not_modules]
  refine wpAny_bind (wpAny_specialOf hT hl ?_)
  have fin : wpAny (model prog w) A (subscripted slice false o i) (fun r s₃ => wpAny (model prog w) A (letTemporaryGo value o r >>= fun _ => pure r) Q E s₃) E s₂ := by
    rw [hs o i]
    exact wpAny_operating (wpAny_mono h₂ (fun r s₃ h₃ => wpAny_bind (wpAny_letTemporaryGo (wpAny_pure h₃))) fun _ _ x => x)
  first
    | exact wpAny_pure (wpAny_bind fin)
    | exact wpAny_bind (wpAny_pure (wpAny_bind fin))
    | exact wpAny_bind fin
section
variable {X : Cx} {o i e value : Expr} {pos pos' tpos : Pos} {td ty tv : TE}
end
section
variable {X : Cx} {pos : Pos}
end
noncomputable def mergeK (kvs more : List (Key × V)) : List (Key × V) := more.foldl (fun acc kv => putK acc kv.1 kv.2) kvs
theorem KV.merge : ∀ {more : List (Key × V)} {rs : List (Key × Value)} {kvs : List (Key × V)} {vs : List (Key × Value)}, KV more rs → KV kvs vs → KV (mergeK kvs more) (merged vs rs) := by
  intro more rs kvs vs r
  unfold KV at r
  induction r generalizing kvs vs with
  | nil => intro q; exact q
  | @cons p q ps qs h t ih =>
    intro r0
    have e : KV (putK kvs p.1 p.2) (stored vs q.1 q.2) := by
      have := r0.put p.1 h.2
      rw [← h.1]; exact this
    exact ih e
theorem length_mergeK : ∀ (more kvs : List (Key × V)), (mergeK kvs more).length ≤ kvs.length + more.length
  | [], kvs => by show kvs.length ≤ kvs.length + 0; omega
  | p :: r, kvs => by
    have h1 := length_mergeK r (putK kvs p.1 p.2)
    have h2 := length_putK kvs p.1 p.2
    show (mergeK (putK kvs p.1 p.2) r).length ≤ _
    rw [List.length_cons]; omega
structure M1 (X : Cx) (o : Expr) (m : Str) (apos : Pos) (e : Expr) (cpos : Pos) : Prop where
  base : attributeBase o m X.env (eval o X.env) = eval o X.env
  few : ((backTo cpos (starEach [e] X.env)).all (fun x => !x.1) && (backToKw cpos (keywordEach [] X.env)).all (fun x => x.1.isSome)
    && decide (([e] : List Expr).length + ([] : List Keyword).length + (if ([] : List Keyword).isEmpty then 0 else 1) < 30)) = true
  line : (apos.endLine == cpos.line) = true
  trees : backTo cpos (starEach [e] X.env) = [(false, eval e X.env)]
structure M2 (X : Cx) (o : Expr) (m : Str) (apos : Pos) (e f : Expr) (cpos : Pos) : Prop where
  base : attributeBase o m X.env (eval o X.env) = eval o X.env
  few : ((backTo cpos (starEach [e, f] X.env)).all (fun x => !x.1) && (backToKw cpos (keywordEach [] X.env)).all (fun x => x.1.isSome)
    && decide (([e, f] : List Expr).length + ([] : List Keyword).length + (if ([] : List Keyword).isEmpty then 0 else 1) < 30)) = true
  line : (apos.endLine == cpos.line) = true
  trees : backTo cpos (starEach [e, f] X.env) = [(false, eval e X.env), (false, eval f X.env)]
noncomputable def IsD (H : Hp) (a : Addr) : Prop := (∃ kvs, Rd H a (.dK kvs)) ∨ ∃ kvs, Rd H a (.dT kvs)
theorem isD_at {X : Cx} {pins : List (Addr × Obj)} {σ : St} {H : Hp} {s : Shared} {a : Addr} (I : Inv X pins σ H s) (d : IsD H a) :
    s.TypeIs (.ref a) "dict" ∧ (∀ b, Value.ref a = .ref b → ∃ ob, s.heap.get? b = some ob ∧ ob.dict = none) ∧ (a == sysModules) = false := by
  rcases d with ⟨kvs, e⟩ | ⟨kvs, e⟩
  · obtain ⟨_, hd, vs, _, dd⟩ := dk_rd I.hok e
    refine ⟨dd.typeIs, fun b q => ?_, hd⟩
    cases q
    obtain ⟨ob, _, _, h1, h2, _⟩ := dd
    exact ⟨ob, h1, h2.2.1⟩
  · obtain ⟨_, hd, xs, _, dd⟩ := dt_rd I.hok e
    refine ⟨dd.typeIs, fun b q => ?_, hd⟩
    cases q
    obtain ⟨ob, _, _, h1, h2, _⟩ := dd
    exact ⟨ob, h1, h2.2.1⟩
section
variable {X : Cx} {pins : List (Addr × Obj)} {σ : St} {H : Hp} {s : Shared} {a : Addr} {y d : V} {u r : Value} {o : Option V} {A : Around} {E : Value → Shared → Prop}
theorem d_get2 {Q : Value → Shared → Prop} (hu : A.units + 1 < cLine) (I : Inv X pins σ H s) (g : DGet H a y o) (ry : RelV y u) (rd : RelV d r) (h : ∀ w' s', Inv X pins σ H s' → RelV (o.getD d) w' → Q w' s') :
    wpAny (model X.prog X.w) A (call (.builtin "dict.get") [.ref a, u, r]) Q E s := by
  rcases g with ⟨kvs, k, e, ey, l⟩ | ⟨kvs, k, b, e, ey, eb, l⟩
  · subst ey
    obtain ⟨z, hd, vs, rel, dd⟩ := dk_rd I.hok e
    refine call_meetsIn PySem.F.slot_dict_get dd.typeIs PySem.F.entry_dict_get (PySem.F.args_dict_get_3 _ _ _) (meets_dict_get_default (mixKind X.prog X.w) a (kV_is ry) hd r) ⟨_, dd.mapOf, h _ _ (I.tok _) ?_⟩
    rw [l]
    exact (rel.val k).getD rd
  · subst ey
    cases (show u = Value.ref b from ry)
    obtain ⟨z, hd, xs, rel, dd⟩ := dt_rd I.hok e
    refine call_meetsIn PySem.F.slot_dict_get dd.typeIs PySem.F.entry_dict_get (PySem.F.args_dict_get_3 _ _ _) (meetsH_dict_get_default (tupleKind (mixKind X.prog X.w)) a b hd r) ⟨tupleKind_room_in1 hu, k, xs, key_of I.hok eb, dd, h _ _ (I.tok _) ?_⟩
    rw [l]
    exact (rel.val k).getD rd
end
noncomputable def tDGet2 (td ty tx : TE) : TE := fun σ H Q => td σ H fun x H1 => ∃ a, x = .ref a ∧ IsD H1 a ∧ ty σ H1 fun y H2 => tx σ H2 fun z H3 => ∃ o, DGet H3 a y o ∧ Q (o.getD z) H3
section
variable {X : Cx} {o e f : Expr} {apos cpos : Pos} {td ty tx : TE}
theorem pe_dget2 (hu : X.A.units + 1 < cLine) (ho : PE X o td) (he : PE X e ty) (hf : PE X f tx) (m : M2 X o "get" apos e f cpos) : PE X (.Call (.Attribute o "get" apos) [e, f] [] cpos) (tDGet2 td ty tx) := by
  intro pins s σ H Q I h
  refine wpAny_Call_method m.base m.few m.line PySem.F.plainAttrs_dict PySem.F.slot_dict_get PySem.F.type_dict_get (thn (ho pins s σ H _ I h) fun u s1 ⟨x, H1, I1, rx, a, ex, d, q1⟩ => ?_)
  subst ex
  obtain rfl : u = Value.ref a := rx
  obtain ⟨t1, t2, _⟩ := isD_at I1 d
  refine ⟨t1, t2, ?_⟩
  rw [m.trees]
  refine Calls.callWith_builtin rfl (Calls.evalArgs_plain (Calls.spliced_cons (thn (he pins s1 σ H1 _ I1 q1) fun iv s2 ⟨y, H2, I2, ry, q2⟩ =>
    Calls.spliced_cons (thn (hf pins s2 σ H2 _ I2 q2) fun fv s3 ⟨z, H3, I3, rz, ov, g, q3⟩ => Calls.spliced_nil ?_))))
  exact d_get2 hu I3 g ry rz fun w' s4 I4 rw' => ⟨_, H3, I4, rw', q3⟩
end
section
variable {X : Cx} {pins : List (Addr × Obj)} {σ : St} {H : Hp} {s : Shared} {a : Addr} {kvs : List (Key × V)} {A : Around} {E : Value → Shared → Prop}
end
section
variable {X : Cx} {pins : List (Addr × Obj)} {σ : St} {H : Hp} {s : Shared} {a : Addr} {y : V} {u : Value} {A : Around} {E : Value → Shared → Prop}
end
end L2
namespace L2
open PySem PySem.Spec PyProof.Rows
section
variable {X : Cx}
end
section
variable {κ : Type} [DecidableEq κ]
end
end L2
namespace HT
open PySem PySem.Spec PyProof.Rows PySem.Calls
section
variable {prog : Program} {w : World} {A : Around} {E : Value → Shared → Prop} {s : Shared}
end
end HT
namespace L2
open PySem PySem.Spec PyProof.Rows
end L2
namespace PySem
open Sem (wp)
open Builtin
open AutoSeq1 (wpAny_loadPart')
end PySem
namespace L3
open PySem PySem.Spec PyProof.Rows L2
end L3
namespace L4
open PySem PySem.Spec PyProof.Rows L2 L3
structure Lft (l : List Env) (e : Addr) (hd : Option Addr) (h h' : Heap) : Prop where
  keep : ∀ b o, h.get? b = some o → b ≠ e → hd ≠ some b → b ∉ frs l → h'.get? b = some o
  slot : ∀ b o, h.get? b = some o → b ≠ e → hd ≠ some b → ∃ sl, h'.get? b = some { o with slots := sl }
  here : ∀ b o, h.get? b = some o → ∃ o', h'.get? b = some o'
section
variable {M : Model} {A : Around} {E : Value → Shared → Prop} {s : Shared}
end
end L4
namespace L4
open PySem PySem.Spec PyProof.Rows L2 L3
section
variable {M : Model} {A : Around} {E : Value → Shared → Prop} {s : Shared}
end
section
variable {P : Program} {w : World} {K : PySem.W.Frag} {mg : Str → Option Value} {base : Heap} {N : List Str} {qual : Str} {scope : Scope} {f : Addr} {cd : Value} {A : Around} {outer : List Env} {s0 : Shared} {H0 : Hp} {E : XK} {CX : CXT}
    {σ : L2.St} {H : Hp} {s : Shared} {h' : Heap} {X : Cx}
end
end L4
namespace L4
open PySem PySem.Spec PyProof.Rows L2 L3
section
variable {M : Model} {A : Around} {E : Value → Shared → Prop} {h : Heap} {g : Array GenState} {d : Drawn} {t : Nat} {os : OsState}
end
section
variable {X : Cx} {σ : L2.St} {H : Hp} {s : Shared} {h' : Heap} {e : Addr}
end
noncomputable def ExCls (K : PySem.W.Frag) (C : Addr) (m : List Value) : Prop := ∃ nm q N bs hd sn sub ab col dd k0 k1 k2 k3 k5 id, K.lookup C = some (excClassObj nm q C N bs m hd sn sub ab col dd k0 k1 k2 k3 k5 id)
structure Apart (X : Cx) (a : Addr) : Prop where
  n0 : X.s₀.heap.get? a = none
  nL : a ≠ X.env.locals
  nC : ∀ y c, X.env.cells.lookup y = some c → c ≠ a
  nP : ∀ p ∈ X.pn, p.1 ≠ a
end L4
namespace L4
open PySem PySem.Spec L2 L3
end L4
namespace L4
open PySem PySem.Spec PySem.W PyProof.Rows L2 L3
section
variable {prog : Program} {w : World} {A : Around} {E : Value → Shared → Prop} {h : Heap} {g : Array GenState} {d : Drawn} {t : Nat} {os : OsState} {a C : Addr} {o : Obj} {K : PySem.W.Frag}
    {n1 q1 : Str} {N1 : Addr} {b1 m1 : List Value} {d1 : Bool} {s1 : List Str} {u1 : List Value} {a1 : Bool} {c1 : Option Bool} {x1 : Option Addr} {i0 i1 i2 i3 i5 : Option Value} {id1 : String}
structure ExLook (K : PySem.W.Frag) (C : Addr) (m : List Value) : Prop where
  cl : ExCls K C m
  be : m.contains (.type "BaseException") = true
  ga : findIn K (.ref C) "__getattribute__" = some (some (.builtin "BaseException.__getattribute__"))
  gt : findIn K (.ref C) "__getattr__" = some none
  cs : findIn K (.ref C) "__class__" = some (some (.builtin "object.__class__"))
  ob : mroIn K C (.type "object") = some true
end
end L4
namespace L4
open PySem PySem.SeqAt PySem.Spec PySem.W PyProof.Rows L2 L3
section
variable {X : Cx}
end
end L4
namespace L4
open PySem PySem.Spec PySem.W PyProof.Rows L2 L3
end L4
namespace PySem
open Sem (wp)
open PyProof.Rows
section
variable {prog : Program} {w : World} {A : Around} {E : Value → Shared → Prop} {s : Shared} {t : Addr} {xs : Array (Int × Tok)}
end
end PySem
namespace L3
open PySem PySem.Spec PyProof.Rows L2
end L3
namespace HT
open PySem PySem.Spec PyProof.Rows
section
variable {prog : Program} {w : World} {A : Around} {E : Value → Shared → Prop} {s : Shared}
theorem getItem_tuple_all {t sl : Addr} {items : Array Value} {vl vu : Value} {lo hi : Option Int} {Q : Value → Shared → Prop} (ht : IsTup s.heap t items) (hs : s.heap.IsSliceOf sl vl vu .none) (pl : IsPart vl lo) (pu : IsPart vu hi)
    (hw : sIx items.size 0 lo = 0 ∧ sIx items.size items.size hi = items.size) (h : Q (.ref t) s) : wpAny (model prog w) A (getItem (.ref t) (.ref sl)) Q E s := by
  obtain ⟨os, hos, hcs, hds⟩ := id hs
  have hTs : s.TypeIs (.ref sl) "slice" := ⟨os, hos, hcs⟩
  unfold getItem
  try with_reducible refine wpAny_holding ?_
  first | refine wpAny_bind (wpAny_pure ?_) | skip
  refine wpAny_bind (wpAny_sequenceKey ht.typeIs (by decide) ?_)
  refine wpAny_bind (wpAny_callSpecial?_slot (name := Str.ofString "__getitem__") ht.typeIs PyProof.Rows.slot_tuple_getitem
    (wpAny_call_entry PyProof.Rows.slot_tuple_getitem ht.typeIs entry_tuple_getitem ?_ (args_tuple_getitem _ _)))
  show wpAny _ _ (Builtin.Tuple.tupleItemsOf (.ref t) >>= _) _ _ s
  refine wpAny_bind (tupleItemsOf_ ht ?_)
  refine wpAny_bind (wpAny_typeOf hTs ?_)
  rw [if_pos (by decide)]
  refine wpAny_bind (sliceApplied_gen hs pl pu ?_)
  have hyes : ((((sIx items.size 0 lo : Nat) : Int) == 0 && (1 : Int) == 1 && (sIx items.size items.size hi - sIx items.size 0 lo) == items.size) = true) := by
    rw [hw.1, hw.2]
    simp
  show wpAny _ _ (if (((sIx items.size 0 lo : Nat) : Int) == 0 && (1 : Int) == 1 && (sIx items.size items.size hi - sIx items.size 0 lo) == items.size) = true then _ else _) _ _ s
  rw [if_pos hyes]
  refine wpAny_bind (m := Builtin.Tuple.tupleIsExact _) ?_
  unfold Builtin.Tuple.tupleIsExact
  refine wpAny_bind (wpAny_typeOf ht.typeIs (wpAny_pure ?_))
  rw [if_pos (by decide)]
  refine wpAny_bind (wpAny_rule ?_)
  exact wpAny_pure ⟨_, rfl, wpAny_pure h⟩
end
end HT
namespace L3
open PySem PySem.Spec PyProof.Rows L2
noncomputable def rSlW (K : PySem.W.Frag) : V → Option Int → Option Int → Hp → VK → Prop := fun x lo hi H Q => ∃ (a : Addr) (xs : List V), x = .ref a ∧ SqT K H a xs ∧ (HT.sIx xs.length 0 lo = 0 ∧ HT.sIx xs.length xs.length hi = xs.length) ∧ Q (.ref a) H
theorem sl_whole {X : Cx} : SlR X (rSlW X.K) := by
  intro pins s σ H x v vl vu lo hi sl Q I rx hs pl pu h
  obtain ⟨a, xs, rfl, hx, hw, q⟩ := h
  cases rx
  obtain ⟨its, r, ht, hz⟩ := I.tuple hx
  have hlen : its.toArray.size = xs.length := by rw [List.size_toArray]; exact r.length.symm
  refine ⟨"tuple", _, PyProof.Rows.slot_tuple_getitem.lookup, ht.typeIs, ?_⟩
  exact HT.getItem_tuple_all ht hs pl pu (by rw [hlen]; exact hw) ⟨.ref a, H, I, rfl, q⟩
noncomputable def rSlB (K : PySem.W.Frag) : V → Option Int → Option Int → Hp → VK → Prop := fun x lo hi H Q => rSlA K x lo hi H Q ∨ rSlW K x lo hi H Q
theorem sl_anyB {X : Cx} : SlR X (rSlB X.K) := by
  intro pins s σ H x v vl vu lo hi sl Q I rx hs pl pu q
  rcases q with q | q
  · exact sl_any pins s σ H x v vl vu lo hi sl Q I rx hs pl pu q
  · exact sl_whole pins s σ H x v vl vu lo hi sl Q I rx hs pl pu q
noncomputable def slE : D → Option Int → Option Int → Option RV
  | .list ds, lo, hi => some (.ow (cutD ds lo hi))
  | .tuple ds, lo, hi => some (.fz (.tuple (cutD ds lo hi)))
  | _, _, _ => none
theorem cut_all {ds : List D} {lo hi : Option Int} (h : HT.sIx ds.length 0 lo = 0 ∧ HT.sIx ds.length ds.length hi = ds.length) : cutD ds lo hi = ds := by
  unfold cutD
  rw [h.1, h.2, List.drop_zero, Nat.sub_zero, List.take_length]
theorem slp_B {K : PySem.W.Frag} : SlP K (rSlB K) slE := by
  intro O H x lo hi dx rv Q n hx e q
  cases dx with
  | list ds => exact .inl (slp_any O H x lo hi _ rv Q n hx e q)
  | tuple ds =>
    cases e
    by_cases hw : HT.sIx ds.length 0 lo = 0 ∧ HT.sIx ds.length ds.length hi = ds.length
    · obtain ⟨a, xs, rfl, h1, h2⟩ := DXt hx
      rw [cut_all hw] at q
      refine .inr ⟨a, xs, rfl, h1.1, by rw [h2.length]; exact hw, q.at (.tup h1 h2)⟩
    · refine .inl (slp_any O H x lo hi (.tuple ds) _ Q n hx ?_ q)
      show (if wholeCut ds.length lo hi = true then none else some (RV.fz (.tuple (cutD ds lo hi)))) = _
      have z : wholeCut ds.length lo hi = false := by unfold wholeCut; exact decide_eq_false hw
      rw [z, if_neg Bool.false_ne_true]
  | _ => cases e
end L3
namespace L3
open PySem PySem.Spec PyProof.Rows L2
section
variable {K : PySem.W.Frag} {E : XK}
open Classical in
end
end L3
namespace L9
open PySem PySem.Spec PyProof.Rows
section
variable {M : Model} {A : Around} {E : Value → Shared → Prop} {env : Env}
variable {nm q : Str} {C N : Addr} {bs bm : List Value} {hdct : Bool} {sn : List Str} {sub : List Value} {ab : Bool} {col : Option Bool} {dd : Option Addr} {k0 k1 k2 k3 k5 : Option Value} {newId : String}
end
section
variable {prog : Program} {w : World} {A : Around} {E : Value → Shared → Prop} {h : Heap} {g : Array GenState} {d : Drawn} {t : Nat} {os : OsState}
variable {nm q : Str} {C N : Addr} {bs bm bmB : List Value} {hdct : Bool} {sn : List Str} {sub : List Value} {ab : Bool} {col : Option Bool} {dd : Option Addr} {k0 k1 k2 k3 k5 : Option Value} {B Bn newId nid initId inN : String} {bmN : List Value}
end
section
variable {prog : Program} {w : World} {A : Around} {E : Value → Shared → Prop} {s : Shared} {env : Env}
variable {nm q : Str} {C N : Addr} {bs bm bmB : List Value} {hdct : Bool} {sn : List Str} {sub : List Value} {ab : Bool} {col : Option Bool} {dd : Option Addr} {k0 k1 k2 k3 k5 : Option Value} {B Bn newId nid initId inN : String} {bmN : List Value}
end
end L9
namespace L9
open PySem PySem.W PyProof.Rows Builtin Builtin.ObjectAttr
noncomputable abbrev mVE : List Value := [.type "ValueError", .type "Exception", .type "BaseException", .type "object"]
section
variable {prog : Program} {w : World} {A : Around} {K : Frag} {B C x : Addr} {s : Shared} {R : Result → Shared → Prop} {cd : ClassData} {name : Str} {tk : Tok} {v : Value} {fs : Array Value}
end
section
variable {prog : Program} {w : World} {A : Around} {E : Value → Shared → Prop} {h : Heap} {g : Array GenState} {d : Drawn} {t : Nat} {os : OsState}
variable {nm q : Str} {C N : Addr} {bs bm bmB : List Value} {hdct : Bool} {sn : List Str} {sub : List Value} {ab : Bool} {col : Option Bool} {dd : Option Addr} {k0 k1 k2 k3 k5 : Option Value} {B newId nid initId : String}
end
end L9
namespace L9
open PySem PySem.Spec PyProof.Rows L2
section
variable {X : Cx} {e : Expr} {es : List Expr} {n : Nat} {te : TE} {t : L2.St → Hp → (Hp → Prop) → Prop} {pos : Pos}
end
end L9
namespace L9
open PySem PySem.Spec PyProof.Rows L2
structure XC (K : PySem.W.Frag) (C B fI : Addr) : Prop where
  obj : ∃ nm q N bs sn sub ab col dd k0 k1 k2 k3 k5, K.lookup C = some (excClassObj nm q C N bs (.ref B :: mVE) true sn sub ab col dd k0 k1 k2 k3 k5 "ValueError.__new__") ∧ PySem.W.nsOkIn K N = true ∧ PySem.W.nsIn K N "__init__" = some (some (.ref fI))
  base : PySem.W.excIn K B mVE "ValueError.__new__" = true
  sa : PySem.W.findIn K (.ref C) "__setattr__" = some (some (.builtin "object.__setattr__"))
section
variable {X : Cx} {B C fI : Addr} {pos p1 p2 : Pos} {a1 : Expr} {as : List Expr} {t : TA} {b : Str}
end
end L9
namespace L9
open PySem PySem.Spec PyProof.Rows L2 L4
section
variable {X : Cx} {pins : List (Addr × Obj)} {σ : L2.St} {H : Hp} {s : Shared} {h' : Heap} {e : Addr} {o : HO}
end
end L9
namespace L9
open PySem PySem.Spec PySem.W PyProof.Rows L2 L3 L4
section
variable {prog : Program} {w : World} {A : Around} {E : Value → Shared → Prop} {h : Heap} {g : Array GenState} {d : Drawn} {t : Nat} {os : OsState} {a C : Addr} {o : Obj} {K : PySem.W.Frag} {od : Option Obj} {name : Str} {v : Value}
    {n1 q1 : Str} {N1 : Addr} {b1 m1 : List Value} {d1 : Bool} {s1 : List Str} {u1 : List Value} {a1 : Bool} {c1 : Option Bool} {x1 : Option Addr} {i0 i1 i2 i3 i5 : Option Value} {id1 : String}
end
end L9
namespace L3
open PySem PySem.Spec PyProof.Rows L2
mutual
noncomputable def noL : PyData → Bool
  | .tuple ds => noLs ds
  | .int _ => true
  | .str _ => true
  | .bool _ => true
  | .none => true
  | _ => false
noncomputable def noLs : List PyData → Bool
  | [] => true
  | d :: r => noL d && noLs r
end
section
variable {K : PySem.W.Frag} {E : XK} {B : Own} {H0 : Hp} {O B' : Own} {σ : L2.St} {H H' : Hp} {ρ : PEnv}
theorem sqT_lst {a : Addr} {xs ys : List V} (h : SqT K H a xs) (l : H a = some (.lst ys)) : SqT K (fun _ => none) a xs := by
  rcases h with (h | ⟨o, h⟩) | h
  · rw [l] at h; cases h
  · rw [l] at h; cases h
  · exact .inr h
mutual
theorem dv_lift (hO : ∀ b, O b → ¬ B' b → ∃ ys, H b = some (.lst ys)) : ∀ {v : V} {d : D}, DV B' K H v d → noL d = true → DV O K H v d
  | _, _, .non, _ => .non
  | _, _, .bl b, _ => .bl b
  | _, _, .int i, _ => .int i
  | _, _, .str x, _ => .str x
  | _, _, .tup (a := a) h hs, e => .tup ⟨h.1, fun z => by
      by_cases y : B' a
      · exact h.2 y
      · obtain ⟨ys, q⟩ := hO a z y
        exact sqT_lst h.1 q⟩ (dvs_lift hO hs e)
  | _, _, .lst h hs, e => by cases e
theorem dvs_lift (hO : ∀ b, O b → ¬ B' b → ∃ ys, H b = some (.lst ys)) : ∀ {vs : List V} {ds : List D}, DVs B' K H vs ds → noLs ds = true → DVs O K H vs ds
  | _, _, .nil, _ => .nil
  | _, _, .cons h hs, e => by
    have e' := Bool.and_eq_true_iff.mp e
    exact .cons (dv_lift hO h e'.1) (dvs_lift hO hs e'.2)
end
end
end L3
namespace PySem
section
variable {prog : Program} {w : World} {A : Around} {E : Value → Shared → Prop} {s : Shared}
end
section
variable {prog : Program} {w : World} {A : Around} {E : Value → Shared → Prop} {s : Shared}
end
end PySem
namespace PyProof.Rows
open PySem
section
variable {prog : Program} {w : World} {A : Around} {E : Value → Shared → Prop} {s : Shared}
end
end PyProof.Rows
namespace L9
open PySem PySem.Spec PyProof.Rows L2 L3
section
variable {K : PySem.W.Frag} {E : XK}
noncomputable def rMulS : R2 := fun x y H Q => ∃ (z : Str) (n : Int), x = .str z ∧ y = .int n ∧ z.length ≤ 1000 ∧ 0 ≤ n ∧ n ≤ 1000 ∧ Q (.str (Txt.mul z n)) H
theorem op_mulS {X : Cx} : OpR X (binaryOp .Mult) rMulS := by
  intro pins s σ H x y v u Q I rx ry h
  obtain ⟨z, n, rfl, rfl, hz, h0, h1, q⟩ := h
  obtain ⟨t, rfl⟩ := rx
  obtain ⟨t', rfl⟩ := ry
  refine SB.mul ⟨?_, fun _ _ => ?_, fun _ _ => ?_⟩ fun t' k => ⟨.str _, H, I.tok k, ⟨_, rfl⟩, q⟩
  · simp; omega
  · have : (1000 : Int) ≤ (2 ^ 63 - 1) / n := Int.le_ediv_of_mul_le (by omega) (by omega)
    omega
  · have : z.length * n.toNat ≤ 1000 * 1000 := Nat.mul_le_mul hz (by omega)
    unfold Builtin.Str.tooLong
    have h2 := sizeLine_eq
    simp
    omega
noncomputable def mulS : D → D → Option RV
  | .str z, .int n => if z.length ≤ 1000 ∧ 0 ≤ n ∧ n ≤ 1000 then some (.fz (.str (Txt.mul z n))) else none
  | _, _ => none
theorem opp_mulS : OpP K rMulS mulS := by
  intro O H x y dx dy rv Q n hx hy e q
  unfold mulS at e
  split at e
  · split at e
    · rename_i hc
      cases e
      cases hx; cases hy
      exact ⟨_, _, rfl, rfl, hc.1, hc.2.1, hc.2.2, q.at (.str _)⟩
    · cases e
  · cases e
end
end L9
namespace L9
open PySem PySem.W PyProof.Rows Builtin Builtin.ObjectAttr
section
variable {prog : Program} {w : World} {A : Around} {K : Frag} {B C x p : Addr} {s : Shared} {R : Result → Shared → Prop} {cd : ClassData} {name : Str} {tk : Tok} {v : Value} {fs : Array Value} {m : Str → Option Value} {ns : List Str}
end
open PySem.Spec L2
section
variable {X : Cx} {B C fI : Addr} {pos : Pos}
end
open L3 L4
end L9
namespace LD
open PySem PyProof.Rows L2 L3
mutual
noncomputable def kd : PyData → Bool
  | .none => true
  | .int _ => true
  | .str x => PyData.strOk x
  | .tuple xs => kds xs
  | _ => false
noncomputable def kds : List PyData → Bool
  | [] => true
  | x :: r => kd x && kds r
end
noncomputable def keyD : PyData → Bool
  | .tuple xs => kds xs && decide ((PyData.tuple xs).depth ≤ 8)
  | _ => false
mutual
theorem kd_lay : ∀ d : PyData, kd d = true → d.canLay0 = true
  | .none, _ => rfl
  | .int _, _ => rfl
  | .str x, h => by unfold PyData.canLay0; unfold kd at h; exact h
  | .tuple xs, h => by unfold PyData.canLay0; unfold kd at h; exact kds_lay xs h
  | .bool _, h | .list _, h | .dict _, h => by simp [kd] at h
theorem kds_lay : ∀ xs : List PyData, kds xs = true → PyData.canLayAll0 xs = true
  | [], _ => rfl
  | x :: r, h => by
    unfold kds at h
    rw [Bool.and_eq_true] at h
    unfold PyData.canLayAll0
    rw [kd_lay x h.1, kds_lay r h.2]; rfl
end
mutual
theorem kd_eqv : ∀ d e : PyData, kd d = true → kd e = true → PyData.eqv d e = true → d = e
  | .none, e, _, h, q => by cases e <;> simp_all [kd, PyData.eqv]
  | .int i, e, _, h, q => by cases e <;> simp_all [kd, PyData.eqv]
  | .str x, e, _, h, q => by cases e <;> simp_all [kd, PyData.eqv]
  | .tuple xs, e, g, h, q => by
    cases e with
    | tuple ys =>
      rw [PyData.eqv] at q
      unfold kd at g h
      rw [kds_eqv xs ys g h q]
    | _ => simp_all [kd, PyData.eqv]
  | .bool _, _, h, _, _ | .list _, _, h, _, _ | .dict _, _, h, _, _ => by simp [kd] at h
theorem kds_eqv : ∀ xs ys : List PyData, kds xs = true → kds ys = true → PyData.eqvAll xs ys = true → xs = ys
  | [], [], _, _, _ => rfl
  | [], _ :: _, _, _, q => by simp [PyData.eqvAll] at q
  | _ :: _, [], _, _, q => by simp [PyData.eqvAll] at q
  | x :: xs, y :: ys, g, h, q => by
    unfold kds at g h
    rw [PyData.eqvAll] at q
    rw [Bool.and_eq_true] at g h q
    rw [kd_eqv x y g.1 h.1 q.1, kds_eqv xs ys g.2 h.2 q.2]
end
theorem eqv_kd {d e : PyData} [Decidable (d = e)] (hd : kd d = true) (he : kd e = true) : PyData.eqv d e = decide (d = e) := by
  by_cases q : d = e
  · subst q
    rw [decide_eq_true rfl]
    exact SeqAt.eqv_refl d (kd_lay d hd)
  · rw [decide_eq_false q]
    cases z : PyData.eqv d e with
    | false => rfl
    | true => exact absurd (kd_eqv d e hd he z) q
theorem keyD_kd {d : PyData} (h : keyD d = true) : kd d = true ∧ d.depth ≤ 8 := by
  cases d with
  | tuple xs =>
    unfold keyD at h
    rw [Bool.and_eq_true] at h
    exact ⟨by unfold kd; exact h.1, of_decide_eq_true h.2⟩
  | _ => simp [keyD] at h
mutual
noncomputable def hashD (w : World) : PyData → Int
  | .none => reduceHash 0xFCA86420
  | .int i => hashInt i
  | .str x => hashStr w x
  | .tuple xs => reduceHash (Builtin.Tuple.tupleHashOf (hashDs w xs))
  | _ => 0
noncomputable def hashDs (w : World) : List PyData → List Int
  | [] => []
  | x :: r => hashD w x :: hashDs w r
end
mutual
noncomputable def drD : PyData → Nat
  | .tuple xs => drDs xs + 1
  | _ => 1
noncomputable def drDs : List PyData → Nat
  | [] => 0
  | x :: r => drD x + drDs r
end
section
variable {prog : Program} {w : World} {E : Value → Shared → Prop}
mutual
theorem hash_ok : ∀ (d : PyData) (v : Value) (as : List Addr) (A : Around) (s : Shared) (Q : Int → Shared → Prop), kd d = true → Reads s.heap v d as → A.units + d.depth < cLine → Q (hashD w d) { s with toks := s.toks + drD d } → wpAny (model prog w) A (pyHash v) Q E s
  | .none, _, _, A, s, Q, _, r, hu, h => by
    cases r
    exact PySem.W.pyHash_slot (T := "NoneType") rfl F.slot_NoneType_hash F.entry_NoneType_hash (F.args_NoneType_hash_1 _) (beq_builtin_none _) (.inr (by omega)) (wpAny_bind (wpAny_pure (wpAny_bind (wpAny_mkInt (wpAny_pure ⟨_, _, rfl, h⟩)))))
  | .int i, _, _, A, s, Q, _, r, _, h => by cases r; exact wpAny_pyHash_int h
  | .str x, _, _, A, s, Q, _, r, _, h => by cases r; exact wpAny_pyHash_str h
  | .tuple xs, _, _, A, s, Q, hk, r, hu, h => by
    cases r with
    | @tuple a o vs n _ _ h1 h2 h3 h4 =>
      refine PySem.W.pyHash_slot (T := "tuple") ⟨_, h1, h2⟩ F.slot_tuple_hash F.entry_tuple_hash (F.args_tuple_hash_1 _) (beq_builtin_none _) (.inr (by omega)) ?_
      show wpAny _ _ (Builtin.Tuple.tupleItemsOf (.ref a) >>= _) _ _ s
      refine wpAny_bind (wpAny_tupleItemsOf h1 h3 ?_)
      refine wpAny_bind ?_
      rw [← Array.forIn_toList]
      unfold kd at hk
      refine hash_loop xs vs.toList _ A.in1 s #[] _ hk h4 (by simp only [PyData.depth, Around.in1_units] at hu ⊢; omega) fun b hb => ?_
      show wpAny _ _ (retInt (Builtin.Tuple.tupleHashOf b.toList)) _ _ _
      rw [hb]
      refine wpAny_bind (wpAny_mkInt (wpAny_pure ⟨_, _, rfl, ?_⟩))
      unfold hashD drD at h
      simpa [Nat.add_assoc] using h
  | .bool _, _, _, _, _, _, h, _, _, _ | .list _, _, _, _, _, _, h, _, _, _ | .dict _, _, _, _, _, _, h, _, _, _ => by simp [kd] at h
theorem hash_loop : ∀ (xs : List PyData) (vs : List Value) (as : List Addr) (A : Around) (s : Shared) (b : Array Int) (Q : Array Int → Shared → Prop), kds xs = true → ReadsAll s.heap vs xs as → A.units + PyData.depthAll xs < cLine →
    (∀ b' : Array Int, b'.toList = b.toList ++ hashDs w xs → Q b' { s with toks := s.toks + drDs xs }) →
    wpAny (model prog w) A (forIn vs b fun x r => do let h ← pyHash x; pure PUnit.unit; pure (ForInStep.yield (r.push h))) Q E s
  | [], _, _, A, s, b, Q, _, x, _, h => by cases x; exact wpAny_pure (h b (by simp [hashDs]))
  | k :: xs, _, _, A, s, b, Q, hk, x, hu, h => by
    cases x with
    | cons x1 x2 =>
      unfold kds at hk
      simp only [Bool.and_eq_true, PyData.depthAll] at hk hu
      rw [List.forIn_cons]
      refine wpAny_bind (wpAny_bind (hash_ok k _ _ A s _ hk.1 x1 (by omega) ?_))
      refine wpAny_bind (wpAny_pure (wpAny_pure ?_))
      refine hash_loop xs _ _ A _ _ Q hk.2 x2 (by omega) fun b' hb => ?_
      have := h b' (by simp [hb, hashDs])
      unfold drDs at this
      simpa [Nat.add_assoc] using this
end
theorem quiet_ok : ∀ (n : Nat) (d : PyData) (v : Value) (as : List Addr) (A : Around) (s : Shared) (Q : Bool → Shared → Prop), kd d = true → Reads s.heap v d as → d.depth ≤ n → Q true s → wpAny (model prog w) A (eqIsQuiet n v) Q E s
  | n, .none, _, _, A, s, Q, _, r, _, h => by cases r; rw [eqIsQuiet_byValue _ rfl]; exact wpAny_pure h
  | n, .int i, _, _, A, s, Q, _, r, _, h => by cases r; rw [eqIsQuiet_byValue _ rfl]; exact wpAny_pure h
  | n, .str i, _, _, A, s, Q, _, r, _, h => by cases r; rw [eqIsQuiet_byValue _ rfl]; exact wpAny_pure h
  | 0, .tuple xs, _, _, A, s, Q, hk, r, hn, h => by simp only [PyData.depth] at hn; omega
  | n + 1, .tuple xs, _, _, A, s, Q, hk, r, hn, h => by
    cases r with
    | @tuple a o vs m _ _ h1 h2 h3 h4 =>
      have hT : s.TypeIs (.ref a) "tuple" := ⟨_, h1, h2⟩
      simp only [PyData.depth] at hn
      unfold eqIsQuiet
      refine wpAny_bind (wpAny_specialOf hT F.slot_tuple_eq.lookup ?_)
      show wpAny _ _ (isInstance (.ref a) (.type "tuple") >>= _) _ _ s
      refine wpAny_bind (wpAny_isInstance hT isSubtype_tuple_tuple ?_)
      simp only [Bool.not_true, Bool.false_eq_true, if_false]
      refine wpAny_bind (wpAny_seqItems h1 h3 ?_)
      refine wpAny_bind ?_
      show wpAny _ _ (forIn vs _ _) _ _ s
      rw [← Array.forIn_toList]
      unfold kd at hk
      refine wpAny_forIn_list _ (fun rest r s' => r.1 = none ∧ s' = s ∧ ∃ ys bs, kds ys = true ∧ ReadsAll s.heap rest ys bs ∧ PyData.depthAll ys ≤ n) _ ?_ ?_ _ _ ⟨rfl, rfl, xs, _, hk, h4, by omega⟩
      · rintro v rest r s' ⟨hr, rfl, ys, bs, k1, k2, k3⟩
        cases k2 with
        | @cons _ _ y ys' _ _ g1 g2 =>
          unfold kds at k1
          simp only [Bool.and_eq_true, PyData.depthAll] at k1 k3
          refine wpAny_bind (quiet_ok n y v _ A s' _ k1.1 g1 (by omega) ?_)
          simp only [Bool.not_true, Bool.false_eq_true, if_false]
          exact wpAny_pure ⟨rfl, rfl, ys', _, k1.2, g2, by omega⟩
      · rintro ⟨r1, r2⟩ s' ⟨hr, rfl, _⟩
        simp only at hr
        subst hr
        exact wpAny_pure h
  | _, .bool _, _, _, _, _, _, h, _, _, _ | _, .list _, _, _, _, _, _, h, _, _, _ | _, .dict _, _, _, _, _, _, h, _, _, _ => by simp [kd] at h
end
mutual
theorem reads_but {h h' : Heap} {x : Addr} {ob : Obj} {es : Array DictEntry} {ep : Nat} (hx : h.get? x = some ob) (he : ob.data = .dict es ep) (hs : Heap.SameBut x h h') : ∀ (d : PyData) (v : Value) (as : List Addr), kd d = true → Reads h v d as → Reads h' v d as
  | .none, _, _, _, r => by cases r; exact .none
  | .int _, _, _, _, r => by cases r; exact .int _ _
  | .str _, _, _, _, r => by cases r; exact .str _ _
  | .tuple xs, _, _, k, r => by
    cases r with
    | @tuple a o vs n _ _ h1 h2 h3 h4 =>
      have hne : a ≠ x := by
        rintro rfl
        rw [hx] at h1
        cases h1
        rw [he] at h3; exact nomatch h3
      unfold kd at k
      exact .tuple ((hs.2 a hne).trans h1) h2 h3 (reads_buts hx he hs xs _ _ k h4)
  | .bool _, _, _, h, _ | .list _, _, _, h, _ | .dict _, _, _, h, _ => by simp [kd] at h
theorem reads_buts {h h' : Heap} {x : Addr} {ob : Obj} {es : Array DictEntry} {ep : Nat} (hx : h.get? x = some ob) (he : ob.data = .dict es ep) (hs : Heap.SameBut x h h') : ∀ (ds : List PyData) (vs : List Value) (as : List Addr), kds ds = true → ReadsAll h vs ds as → ReadsAll h' vs ds as
  | [], _, _, _, r => by cases r; exact .nil
  | d :: ds, _, _, k, r => by
    cases r with
    | cons r1 r2 =>
      unfold kds at k
      rw [Bool.and_eq_true] at k
      exact .cons (reads_but hx he hs d _ _ k.1 r1) (reads_buts hx he hs ds _ _ k.2 r2)
end
noncomputable abbrev KD := { d : PyData // keyD d = true }
noncomputable instance kdDec : DecidableEq KD := fun _ _ => Classical.propDecidable _
noncomputable def deepKind (prog : Program) (w : World) : HeapKind prog w KD where
  is := fun h k a => ∃ as, Reads h (.ref a) k.1 as
  hash := fun k => hashD w k.1
  draws := fun k => drD k.1
  room := fun A => A.units + 8 < cLine
  inj := fun ⟨_, r⟩ ⟨_, r'⟩ => Subtype.ext (Reads.unique r _ _ r').1
  keeps := fun {h h' k a d o es ep} ⟨as, r⟩ ho hd hs => ⟨as, reads_but ho hd hs k.1 _ _ (keyD_kd k.2).1 r⟩
  pyHash := fun {A E s k a Q} hu ⟨as, r⟩ q => hash_ok k.1 _ as A s Q (keyD_kd k.2).1 r (by have := (keyD_kd k.2).2; omega) q
  eqBool := fun {A E s x y a b Q} hu ⟨as, r⟩ ⟨bs, r'⟩ q => SeqAt.eqAt_reads x.1 y.1 A s _ _ as bs r r' (kd_lay _ (keyD_kd x.2).1) (kd_lay _ (keyD_kd y.2).1) (by have := (keyD_kd x.2).2; omega) prog w E Q (by
    haveI : Decidable (x.1 = y.1) := Classical.propDecidable _
    rw [eqv_kd (keyD_kd x.2).1 (keyD_kd y.2).1]
    by_cases e : x = y
    · rw [decide_eq_true e] at q; rw [decide_eq_true (congrArg Subtype.val e)]; exact q
    · rw [decide_eq_false e] at q; rw [decide_eq_false fun z => e (Subtype.ext z)]; exact q)
  quiet := fun {A E s k a Q} ⟨as, r⟩ q => quiet_ok 8 k.1 _ as A s Q (keyD_kd k.2).1 r (keyD_kd k.2).2 q
end LD
namespace LD
open PySem PyProof.Rows L2 L3
noncomputable def DkP (a : Addr) (xs : List (KD × Addr × V)) (w : World) (h : Heap) : Prop :=
  (xs.length ≤ sizeLine ∧ (a == sysModules) = false ∧ (xs.map (·.1)).Nodup) ∧ ∃ o es ep, h.get? a = some o ∧ o.ExactDict ∧ o.data = .dict es ep ∧ Paired (fun (x : KD × Addr × V) (e : DictEntry) => e.hash = hashD w x.1.1 ∧ e.key = .ref x.2.1 ∧ RelV x.2.2 e.val) xs es.toList
noncomputable abbrev DkO (a : Addr) (xs : List (KD × Addr × V)) : HO := .exw (DkP a xs)
noncomputable abbrev PrD (O : Own) (K : PySem.W.Frag) (H : Hp) : List (KD × Addr × V) → List (D × D) → Prop :=
  Paired fun x kv => x.1.1 = kv.1 ∧ L3.DV O K H (.ref x.2.1) kv.1 ∧ L3.DV O K H x.2.2 kv.2
end LD
namespace L10
open PySem L2 L3
inductive AV where
  | fz (d : D)
  | rf (i : Nat)
inductive SV where
  | fz (d : D)
  | rf (i : Nat)
  | tp (l : List AV)
noncomputable def AV.sv : AV → SV
  | .fz d => .fz d
  | .rf i => .rf i
inductive Cell where
  | lst (xs : List SV)
  | dct (kvs : List (Key × SV))
  | obj (C : Str) (fs : List (Str × SV))
  | dd (kvs : List (D × D))
  | dead
noncomputable abbrev Sto := List Cell
noncomputable abbrev SEnv := List (Option SV)
inductive RS (α : Type) where
  | ok (a : α) (ω : Sto)
  | er (x : Xc) (ω : Sto)
  | bad
noncomputable def RS.bind {α β : Type} (r : RS α) (f : α → Sto → RS β) : RS β := match r with
  | .ok a ω => f a ω
  | .er x ω => .er x ω
  | .bad => .bad
noncomputable def RS.ofO {α : Type} (ω : Sto) : Option α → RS α
  | some a => .ok a ω
  | none => .bad
theorem RS.bind_ok {α β : Type} (a : α) (ω : Sto) (f : α → Sto → RS β) : (RS.ok a ω).bind f = f a ω := rfl
noncomputable def Lv (α : List Addr) (ω : Sto) : Own := fun b => ∃ (i : Nat) (c : Cell), α[i]? = some b ∧ ω[i]? = some c ∧ c ≠ Cell.dead
noncomputable def ow (B : Own) (α : List Addr) (ω : Sto) : Own := fun b => B b ∨ Lv α ω b
section
variable (O : Own) (K : PySem.W.Frag) (H : Hp) (α : List Addr)
noncomputable def AOk (v : V) : AV → Prop
  | .fz d => DV O K H v d
  | .rf i => ∃ a, α[i]? = some a ∧ v = .ref a
noncomputable def VOk (v : V) : SV → Prop
  | .fz d => DV O K H v d
  | .rf i => ∃ a, α[i]? = some a ∧ v = .ref a
  | .tp l => ∃ a xs, v = .ref a ∧ SqTO O K H a xs ∧ Paired (AOk O K H α) xs l
noncomputable abbrev VsOk : List V → List SV → Prop := Paired (VOk O K H α)
noncomputable def COk (a : Addr) : Cell → Prop
  | .lst xs => ∃ vs, H a = some (.lst vs) ∧ VsOk O K H α vs xs
  | .dct kvs => ∃ ws : List (Key × V), H a = some (.dK ws) ∧ Paired (fun (p : Key × V) (q : Key × SV) => p.1 = q.1 ∧ VOk O K H α p.2 q.2) ws kvs
  | .obj C fs => ∃ Ca dx ws, PySem.W.nsIn K mainGlobals C = some (some (.ref Ca)) ∧ H a = some (.ins Ca dx ws) ∧ Paired (fun (p : Str × V) (q : Str × SV) => p.1 = q.1 ∧ VOk O K H α p.2 q.2) ws fs
  | .dd kvs => ∃ xs, H a = some (LD.DkO a xs) ∧ LD.PrD O K H xs kvs
  | .dead => True
noncomputable def SlOk (σ : L2.St) (ρ : SEnv) : Prop := σ.length = ρ.length ∧ ∀ (i : Nat) (x : SV), ρ[i]? = some (some x) → ∃ v, σ[i]? = some (some v) ∧ VOk O K H α v x
end
structure StoOk (B : Own) (K : PySem.W.Frag) (H : Hp) (α : List Addr) (ω : Sto) : Prop where
  len : α.length = ω.length
  nd : ∀ (i j : Nat) (a : Addr), α[i]? = some a → α[j]? = some a → i = j
  bn : ∀ a, B a → H a ≠ none
  ba : ∀ a, B a → ∀ i : Nat, α[i]? ≠ some a
  al : ∀ (i : Nat) (a : Addr), α[i]? = some a → H a ≠ none
  cel : ∀ (i : Nat) (a : Addr) (c : Cell), α[i]? = some a → ω[i]? = some c → COk (ow B α ω) K H α a c
structure Evo (α : List Addr) (ω : Sto) (H : Hp) (α' : List Addr) (ω' : Sto) (H' : Hp) : Prop where
  pre : ∀ (i : Nat) (a : Addr), α[i]? = some a → α'[i]? = some a
  kp : ∀ b o, H b = some o → ¬ Lv α ω b → H' b = some o
  lv : ∀ b, Lv α' ω' b → Lv α ω b ∨ H b = none
section
variable {B O O' : Own} {K : PySem.W.Frag} {E : XK} {H H' H1 H2 : Hp} {α α' α1 α2 : List Addr} {ω ω' ω1 ω2 : Sto} {σ : L2.St} {ρ : SEnv} {v : V}
theorem Evo.refl : Evo α ω H α ω H := ⟨fun _ _ h => h, fun _ _ h _ => h, fun _ h => .inl h⟩
theorem Evo.trans (a : Evo α ω H α1 ω1 H1) (b : Evo α1 ω1 H1 α2 ω2 H2) : Evo α ω H α2 ω2 H2 := by
  have n1 : ∀ b o, H b = some o → ¬ Lv α ω b → ¬ Lv α1 ω1 b := fun b o h n z => (a.lv b z).elim n fun q => by rw [h] at q; cases q
  refine ⟨fun i p h => b.pre i p (a.pre i p h), fun p o h n => b.kp p o (a.kp p o h n) (n1 p o h n), fun p h => ?_⟩
  rcases b.lv p h with h | h
  · exact a.lv p h
  · cases q : H p with
    | none => exact .inr rfl
    | some o =>
      refine .inl (Classical.byContradiction fun n => ?_)
      rw [a.kp p o q n] at h
      cases h
theorem Evo.same (s : Same H H') : Evo α ω H α ω H' := ⟨fun _ _ h => h, fun b o h _ => s b o h, fun _ h => .inl h⟩
theorem Evo.ev (e : Evo α ω H α' ω' H') : Ev (ow B α ω) H (ow B α' ω') H' := fun b o h n =>
  ⟨e.kp b o h fun z => n (.inr z), fun z => z.elim (fun q => n (.inl q)) fun q => (e.lv b q).elim (fun q => n (.inr q)) fun q => by rw [h] at q; cases q⟩
theorem AOk.ev {x : AV} (e : Ev O H O' H') (p : ∀ (i : Nat) (a : Addr), α[i]? = some a → α'[i]? = some a) (h : AOk O K H α v x) : AOk O' K H' α' v x := by
  cases x with
  | fz d => exact DV.ev e h
  | rf i => obtain ⟨a, h1, h2⟩ := h; exact ⟨a, p i a h1, h2⟩
theorem VOk.ev {x : SV} (e : Ev O H O' H') (p : ∀ (i : Nat) (a : Addr), α[i]? = some a → α'[i]? = some a) (h : VOk O K H α v x) : VOk O' K H' α' v x := by
  cases x with
  | fz d => exact DV.ev e h
  | rf i => obtain ⟨a, h1, h2⟩ := h; exact ⟨a, p i a h1, h2⟩
  | tp l => obtain ⟨a, xs, h1, h2, h3⟩ := h; exact ⟨a, xs, h1, h2.ev e, Paired.mapP h3 fun _ _ q => q.ev e p⟩
theorem VOk.evo {x : SV} (e : Evo α ω H α' ω' H') (h : VOk (ow B α ω) K H α v x) : VOk (ow B α' ω') K H' α' v x := h.ev e.ev e.pre
theorem VsOk.evo {vs : List V} {xs : List SV} (e : Evo α ω H α' ω' H') (h : VsOk (ow B α ω) K H α vs xs) : VsOk (ow B α' ω') K H' α' vs xs := Paired.mapP h fun _ _ q => q.evo e
theorem SlOk.evo (e : Evo α ω H α' ω' H') (h : SlOk (ow B α ω) K H α σ ρ) : SlOk (ow B α' ω') K H' α' σ ρ := ⟨h.1, fun i x q => let ⟨v, h1, h2⟩ := h.2 i x q; ⟨v, h1, h2.evo e⟩⟩
theorem COk.ev {a : Addr} {c : Cell} (e : Ev O H O' H') (p : ∀ (i : Nat) (a : Addr), α[i]? = some a → α'[i]? = some a) (ha : ∀ o, H a = some o → H' a = some o) (h : COk O K H α a c) : COk O' K H' α' a c := by
  cases c with
  | lst xs => obtain ⟨vs, h1, h2⟩ := h; exact ⟨vs, ha _ h1, Paired.mapP h2 fun _ _ q => q.ev e p⟩
  | dct kvs => obtain ⟨ws, h1, h2⟩ := h; exact ⟨ws, ha _ h1, Paired.mapP h2 fun _ _ q => ⟨q.1, q.2.ev e p⟩⟩
  | obj C fs => obtain ⟨Ca, dx, ws, h0, h1, h2⟩ := h; exact ⟨Ca, dx, ws, h0, ha _ h1, Paired.mapP h2 fun _ _ q => ⟨q.1, q.2.ev e p⟩⟩
  | dd kvs => obtain ⟨xs, h1, h2⟩ := h; exact ⟨xs, ha _ h1, Paired.mapP h2 fun _ _ q => ⟨q.1, q.2.1.ev e, q.2.2.ev e⟩⟩
  | dead => trivial
theorem StoOk.noO (s : StoOk B K H α ω) : NoneO (ow B α ω) H := fun a h z => z.elim (fun q => s.bn a q h) fun ⟨i, c, q, _⟩ => s.al i a q h
theorem StoOk.owd (s : StoOk B K H α ω) : ∀ a, ow B α ω a → H a ≠ none := fun a z h => s.noO a h z
theorem StoOk.grow (s : StoOk B K H α ω) (e : Same H H') : StoOk B K H' α ω := by
  have n : ∀ a, H a ≠ none → H' a ≠ none := fun a h z => h (e.free z)
  exact ⟨s.len, s.nd, fun a h => n a (s.bn a h), s.ba, fun i a h => n a (s.al i a h), fun i a c h1 h2 => (s.cel i a c h1 h2).ev (Ev.grow e) (fun _ _ h => h) fun o h => e _ _ h⟩
theorem StoOk.at (s : StoOk B K H α ω) {i : Nat} {c : Cell} (h : ω[i]? = some c) : ∃ a, α[i]? = some a := by
  have : i < ω.length := (List.getElem?_eq_some_iff.mp h).1
  rw [← s.len] at this
  exact ⟨_, List.getElem?_eq_getElem this⟩
theorem StoOk.notB (s : StoOk B K H α ω) {i : Nat} {a : Addr} (h : α[i]? = some a) : ¬ B a := fun z => s.ba a z i h
theorem lv_set {i : Nat} {c c' : Cell} (h : ω[i]? = some c) (hc : c ≠ .dead) (hc' : c' ≠ .dead) {b : Addr} : Lv α (ω.set i c') b ↔ Lv α ω b := by
  constructor
  · rintro ⟨j, d, h1, h2, h3⟩
    rcases set_get h2 with ⟨rfl, rfl⟩ | ⟨_, h2⟩
    · exact ⟨j, c, h1, h, hc⟩
    · exact ⟨j, d, h1, h2, h3⟩
  · rintro ⟨j, d, h1, h2, h3⟩
    by_cases e : j = i
    · subst e
      exact ⟨j, c', h1, by rw [List.getElem?_set_self (List.getElem?_eq_some_iff.mp h).1], hc'⟩
    · exact ⟨j, d, h1, by rw [List.getElem?_set_ne (fun z => e z.symm)]; exact h2, h3⟩
theorem ow_set {i : Nat} {c c' : Cell} (h : ω[i]? = some c) (hc : c ≠ .dead) (hc' : c' ≠ .dead) : ow B α (ω.set i c') = ow B α ω := by
  funext b
  exact propext ⟨fun z => z.imp id (lv_set h hc hc').mp, fun z => z.imp id (lv_set h hc hc').mpr⟩
theorem Evo.put {i : Nat} {a : Addr} {c c' : Cell} {o : HO} (ha : α[i]? = some a) (h : ω[i]? = some c) (hc : c ≠ .dead) (hc' : c' ≠ .dead) : Evo α ω H α (ω.set i c') (upd H a o) :=
  ⟨fun _ _ h => h, fun b o' q n => by
    have z : b ≠ a := fun e => n ⟨i, c, by rw [e]; exact ha, h, hc⟩
    rw [upd_ne z]; exact q, fun b z => .inl ((lv_set h hc hc').mp z)⟩
theorem StoOk.put (s : StoOk B K H α ω) {i : Nat} {a : Addr} {c c' : Cell} {o : HO} (ha : α[i]? = some a) (h : ω[i]? = some c) (hc : c ≠ .dead) (hc' : c' ≠ .dead) (new : COk (ow B α ω) K (upd H a o) α a c') : StoOk B K (upd H a o) α (ω.set i c') := by
  have e : Evo α ω H α (ω.set i c') (upd H a o) := Evo.put ha h hc hc'
  have n : ∀ b, H b ≠ none → upd H a o b ≠ none := fun b h => by
    by_cases z : b = a
    · subst z; rw [upd_same]; simp
    · rw [upd_ne z]; exact h
  refine ⟨by rw [List.length_set]; exact s.len, s.nd, fun b h => n b (s.bn b h), s.ba, fun j b h => n b (s.al j b h), fun j b d h1 h2 => ?_⟩
  rcases set_get h2 with ⟨rfl, rfl⟩ | ⟨hne, h2⟩
  · rw [ha] at h1; cases h1
    rw [ow_set h hc hc']; exact new
  · exact (s.cel j b d h1 h2).ev e.ev e.pre fun u q => by rw [upd_ne (fun z => hne (s.nd j i a (by rw [← z]; exact h1) ha))]; exact q
theorem ev_put {i : Nat} {a : Addr} {c : Cell} {o : HO} (ha : α[i]? = some a) (h : ω[i]? = some c) (hc : c ≠ .dead) : Ev (ow B α ω) H (ow B α ω) (upd H a o) := Ev.mut (.inr ⟨i, c, ha, h, hc⟩) o
theorem get_snoc {α : Type} {l : List α} {x y : α} {i : Nat} (h : (l ++ [x])[i]? = some y) : l[i]? = some y ∨ (i = l.length ∧ y = x) := by
  by_cases hi : i < l.length
  · rw [List.getElem?_append_left hi] at h; exact .inl h
  · rw [List.getElem?_append_right (by omega)] at h
    cases q : i - l.length with
    | zero => rw [q] at h; cases h; exact .inr ⟨by omega, rfl⟩
    | succ n => rw [q] at h; cases h
theorem snoc_get {α : Type} {l : List α} {x y : α} {i : Nat} (h : l[i]? = some y) : (l ++ [x])[i]? = some y := by
  rw [List.getElem?_append_left (List.getElem?_eq_some_iff.mp h).1]; exact h
theorem snoc_last {α : Type} {l : List α} {x : α} : (l ++ [x])[l.length]? = some x := by simp
theorem lv_new {p : Addr} {c : Cell} (hl : α.length = ω.length) {b : Addr} (h : Lv (α ++ [p]) (ω ++ [c]) b) : Lv α ω b ∨ b = p := by
  obtain ⟨i, d, h1, h2, h3⟩ := h
  rcases get_snoc h1 with h1 | ⟨e1, e2⟩
  · rcases get_snoc h2 with h2 | ⟨e1, e2⟩
    · exact .inl ⟨i, d, h1, h2, h3⟩
    · have := (List.getElem?_eq_some_iff.mp h1).1; omega
  · exact .inr e2
theorem Evo.newS {p : Addr} {c : Cell} (hl : α.length = ω.length) (s : Same H H') (hp : H p = none) : Evo α ω H (α ++ [p]) (ω ++ [c]) H' :=
  ⟨fun i a h => snoc_get h, fun b u q _ => s b u q, fun b z => (lv_new hl z).imp id fun e => by rw [e]; exact hp⟩
theorem StoOk.newS (s : StoOk B K H α ω) {p : Addr} {c : Cell} (e : Same H H') (hp : H p = none) (hq : H' p ≠ none) (new : COk (ow B (α ++ [p]) (ω ++ [c])) K H' (α ++ [p]) p c) : StoOk B K H' (α ++ [p]) (ω ++ [c]) := by
  have ev : Evo α ω H (α ++ [p]) (ω ++ [c]) H' := Evo.newS s.len e hp
  have n : ∀ b, H b ≠ none → H' b ≠ none := fun b h z => h (e.free z)
  refine ⟨by rw [List.length_append, List.length_append, s.len]; rfl, fun i j a h1 h2 => ?_, fun a h => n a (s.bn a h), fun a h i q => ?_, fun i a h => ?_, fun i a d h1 h2 => ?_⟩
  · rcases get_snoc h1 with g1 | ⟨e1, e2⟩ <;> rcases get_snoc h2 with g2 | ⟨e3, e4⟩
    · exact s.nd i j a g1 g2
    · exact absurd (by rw [e4]; exact hp) (s.al i a g1)
    · exact absurd (by rw [e2]; exact hp) (s.al j a g2)
    · omega
  · rcases get_snoc q with q | ⟨_, e2⟩
    · exact s.ba a h i q
    · subst e2; exact s.bn a h hp
  · rcases get_snoc h with h | ⟨_, e2⟩
    · exact n a (s.al i a h)
    · subst e2; exact hq
  · rcases get_snoc h2 with h2 | ⟨e1, e2⟩
    · rcases get_snoc h1 with h1 | ⟨e1, _⟩
      · exact (s.cel i a d h1 h2).ev ev.ev ev.pre fun o q => e _ _ q
      · have := (List.getElem?_eq_some_iff.mp h2).1; have := s.len; omega
    · rcases get_snoc h1 with h1 | ⟨_, e3⟩
      · have := (List.getElem?_eq_some_iff.mp h1).1; have := s.len; omega
      · subst e2 e3; exact new
noncomputable def WS {A : Type} (K : PySem.W.Frag) (E : XK) (B : Own) (H : Hp) (α : List Addr) (ω : Sto) (P : A → List Addr → Sto → Hp → Prop) : RS A → Prop
  | .ok a ω' => ∀ α' H', Evo α ω H α' ω' H' → StoOk B K H' α' ω' → P a α' ω' H'
  | .er x ω' => ∀ c dx α' H', Evo α ω H α' ω' H' → StoOk B K H' α' ω' → XOk K (ow B α' ω') H' c dx x → E c dx H'
  | .bad => False
theorem WS.from {A : Type} {P : A → List Addr → Sto → Hp → Prop} {r : RS A} (e : Evo α ω H α1 ω1 H1) (h : WS K E B H α ω P r) : WS K E B H1 α1 ω1 P r := by
  cases r with
  | ok a ω2 => exact fun α2 H2 e2 s2 => h α2 H2 (e.trans e2) s2
  | er x ω2 => exact fun c dx α2 H2 e2 s2 => h c dx α2 H2 (e.trans e2) s2
  | bad => exact h
theorem WS.bind {A C : Type} {P : C → List Addr → Sto → Hp → Prop} {r : RS A} {k : A → Sto → RS C} (h : WS K E B H α ω P (r.bind k)) : WS K E B H α ω (fun a α1 ω1 H1 => WS K E B H1 α1 ω1 P (k a ω1)) r := by
  cases r with
  | ok a ω1 => exact fun α1 H1 e1 _ => WS.from e1 h
  | er x ω1 => exact h
  | bad => exact h
theorem WS.ofO {A C : Type} {P : C → List Addr → Sto → Hp → Prop} {o : Option A} {k : A → Sto → RS C} (h : WS K E B H α ω P ((RS.ofO ω o).bind k)) : ∃ a, o = some a ∧ WS K E B H α ω P (k a ω) := by
  cases o with
  | none => exact h.elim
  | some a => exact ⟨a, rfl, h⟩
theorem WS.imp {A : Type} {P P' : A → List Addr → Sto → Hp → Prop} {r : RS A} (h : WS K E B H α ω P r) (g : ∀ a α' ω' H', Evo α ω H α' ω' H' → StoOk B K H' α' ω' → P a α' ω' H' → P' a α' ω' H') : WS K E B H α ω P' r := by
  cases r with
  | ok a ω1 => exact fun α1 H1 e1 s1 => g a α1 ω1 H1 e1 s1 (h α1 H1 e1 s1)
  | er x ω1 => exact h
  | bad => exact h
theorem WS.now {A : Type} {P : A → List Addr → Sto → Hp → Prop} {a : A} (s : StoOk B K H α ω) (h : WS K E B H α ω P (.ok a ω)) : P a α ω H := h α H .refl s
end
noncomputable abbrev FES := SEnv → Sto → RS SV
noncomputable abbrev FTS := SEnv → Sto → RS Bool
noncomputable abbrev FAS := SEnv → Sto → RS (List SV)
noncomputable def EOS (K : PySem.W.Frag) (E : XK) (t : TE) (f : FES) : Prop :=
  ∀ (B : Own) (σ : L2.St) (H : Hp) (α : List Addr) (ω : Sto) (ρ : SEnv) (Q : VK), StoOk B K H α ω → SlOk (ow B α ω) K H α σ ρ → WS K E B H α ω (fun x α' ω' H' => ∀ v, VOk (ow B α' ω') K H' α' v x → Q v H') (f ρ ω) → t σ H Q
noncomputable def TTS (K : PySem.W.Frag) (E : XK) (t : TT) (f : FTS) : Prop :=
  ∀ (B : Own) (σ : L2.St) (H : Hp) (α : List Addr) (ω : Sto) (ρ : SEnv) (Q : Bool → Hp → Prop), StoOk B K H α ω → SlOk (ow B α ω) K H α σ ρ → WS K E B H α ω (fun b _ _ H' => Q b H') (f ρ ω) → t σ H Q
noncomputable def AOS (K : PySem.W.Frag) (E : XK) (t : TA) (f : FAS) : Prop :=
  ∀ (B : Own) (σ : L2.St) (H : Hp) (α : List Addr) (ω : Sto) (ρ : SEnv) (Q : List V → Hp → Prop), StoOk B K H α ω → SlOk (ow B α ω) K H α σ ρ → WS K E B H α ω (fun xs α' ω' H' => ∀ vs, VsOk (ow B α' ω') K H' α' vs xs → Q vs H') (f ρ ω) → t σ H Q
end L10
namespace L10
open PySem L2 L3
section
variable {B O O' : Own} {K : PySem.W.Frag} {E : XK} {H H' H1 H2 : Hp} {α α' α1 α2 : List Addr} {ω ω' ω1 ω2 : Sto} {σ : L2.St} {ρ : SEnv} {v : V}
noncomputable def pureV : Option SV → Option PV
  | some (.fz d) => some (.fz d)
  | _ => none
noncomputable def pureE (ρ : SEnv) : PEnv := ρ.map pureV
theorem pureE_get {i : Nat} {x : PV} (h : (pureE ρ)[i]? = some (some x)) : ∃ d, x = .fz d ∧ ρ[i]? = some (some (.fz d)) := by
  unfold pureE at h
  rw [List.getElem?_map] at h
  cases q : ρ[i]? with
  | none => rw [q] at h; cases h
  | some o =>
    rw [q] at h
    have h' : pureV o = some x := Option.some.inj h
    unfold pureV at h'
    split at h'
    · cases h'; exact ⟨_, rfl, rfl⟩
    · cases h'
theorem rl_of (s : StoOk B K H α ω) (sl : SlOk (ow B α ω) K H α σ ρ) : Rl K (ow B α ω) H (ow B α ω) σ H (pureE ρ) := by
  refine ⟨Same.refl _, fun _ h => h, s.owd, s.noO, by unfold pureE; rw [List.length_map]; exact sl.1, fun i x h => ?_, fun i j ds es w h => ?_⟩
  · obtain ⟨d, rfl, hd⟩ := pureE_get h
    obtain ⟨v, h1, h2⟩ := sl.2 i _ hd
    exact ⟨v, h1, h2⟩
  · obtain ⟨d, e, _⟩ := pureE_get h
    cases e
noncomputable def pushR (ω : Sto) : RV → RS SV
  | .fz d => .ok (.fz d) ω
  | .ow ds => .ok (.rf ω.length) (ω ++ [.lst (ds.map .fz)])
noncomputable abbrev PQ (B : Own) (K : PySem.W.Frag) (Q : VK) : SV → List Addr → Sto → Hp → Prop := fun x α' ω' H' => ∀ v, VOk (ow B α' ω') K H' α' v x → Q v H'
theorem dvs_vs (O : Own) (α : List Addr) : ∀ {vs : List V} {ds : List D}, DVs O K H vs ds → VsOk O K H α vs (ds.map .fz)
  | _, _, .nil => .nil
  | _, _, .cons h t => .cons h (dvs_vs O α t)
theorem new_list {Q : VK} {ds : List D} {p : Addr} {vs : List V} {O' : Own} (s : StoOk B K H α ω) (w : WS K E B H α ω (PQ B K Q) (pushR ω (.ow ds))) (e : Same H H') (hp : H p = none) (h : H' p = some (.lst vs)) (hd : DVs O' K H' vs ds) (hO : ∀ b, ow B α ω b → O' b) (hq : O' p) : Q (.ref p) H' := by
  have sub : ∀ b, ow B (α ++ [p]) (ω ++ [.lst (ds.map .fz)]) b → O' b := fun b z => z.elim (fun q => hO b (.inl q)) fun q => (lv_new s.len q).elim (fun q => hO b (.inr q)) fun q => by rw [q]; exact hq
  exact w (α ++ [p]) H' (Evo.newS s.len e hp) (s.newS e hp (by rw [h]; simp) ⟨vs, h, dvs_vs _ _ (hd.ev (Ev.sub sub))⟩) (.ref p) ⟨p, by rw [← s.len]; exact snoc_last, rfl⟩
theorem fin_s {Q : VK} {rv : RV} (s : StoOk B K H α ω) (w : WS K E B H α ω (PQ B K Q) (pushR ω rv)) : Fin (ow B α ω) K H Q rv := by
  cases rv with
  | fz d => exact fun v H' e dv => w α H' (Evo.same e) (s.grow e) v dv
  | ow ds => exact fun p vs H' e hp h dv => new_list s w e hp h dv (fun b z => .inl z) (.inr rfl)
noncomputable def liftP (f : FE) : FES := fun ρ ω => match f (pureE ρ) with
  | .ok (.fz d, _) => .ok (.fz d) ω
  | .ok (.ow ds, _) => pushR ω (.ow ds)
  | .ok (.pl _, _) => .bad
  | .er x => .er x ω
  | .bad => .bad
theorem eos_lift {t : TE} {f : FE} (h : EO K E t f) : EOS K E t (liftP f) := by
  intro B σ H α ω ρ Q s sl w
  refine h (ow B α ω) H (ow B α ω) σ H (pureE ρ) Q (rl_of s sl) ?_
  unfold liftP at w
  cases q : f (pureE ρ) with
  | bad => rw [q] at w; exact w.elim
  | er x => rw [q] at w; exact fun c dx H' e k => w c dx α H' (Evo.same e) (s.grow e) k
  | ok r =>
    obtain ⟨pv, ρ'⟩ := r
    rw [q] at w
    intro O' v H' e R p
    cases pv with
    | fz d => exact w α H' (Evo.same R.same) (s.grow R.same) v (DV.ev (Ev.sub R.bo) p)
    | ow ds =>
      obtain ⟨a, vs, rfl, h1, h2, h3, h4, h5⟩ := p
      exact new_list s w R.same h2 h3 h4 R.bo h1
    | pl i => exact w.elim
noncomputable def liftT (f : FT) : FTS := fun ρ ω => match f (pureE ρ) with
  | .ok (b, _) => .ok b ω
  | .er x => .er x ω
  | .bad => .bad
theorem tts_lift {t : TT} {f : FT} (h : TTO K E t f) : TTS K E t (liftT f) := by
  intro B σ H α ω ρ Q s sl w
  refine h (ow B α ω) H (ow B α ω) σ H (pureE ρ) Q (rl_of s sl) ?_
  unfold liftT at w
  cases q : f (pureE ρ) with
  | bad => rw [q] at w; exact w.elim
  | er x => rw [q] at w; exact fun c dx H' e k => w c dx α H' (Evo.same e) (s.grow e) k
  | ok r =>
    obtain ⟨b, ρ'⟩ := r
    rw [q] at w
    exact fun O' H' e R => w α H' (Evo.same R.same) (s.grow R.same)
noncomputable def varS (i : Nat) : FES := fun ρ ω => match ρ[i]? with
  | some (some x) => .ok x ω
  | _ => .bad
theorem eos_var {i : Nat} : EOS K E (tVar i) (varS i) := by
  intro B σ H α ω ρ Q s sl w
  unfold varS at w
  cases q : ρ[i]? with
  | none => rw [q] at w; exact w.elim
  | some o =>
    cases o with
    | none => rw [q] at w; exact w.elim
    | some x =>
      rw [q] at w
      obtain ⟨v, h1, h2⟩ := sl.2 i x q
      exact ⟨v, h1, WS.now s w v h2⟩
noncomputable def optAll {α β : Type} (f : α → Option β) : List α → Option (List β)
  | [] => some []
  | x :: r => match f x with
    | some y => (match optAll f r with
      | some ys => some (y :: ys)
      | none => none)
    | none => none
noncomputable def rdV : Nat → Sto → SV → Option D
  | _, _, .fz d => some d
  | 0, _, _ => none
  | n + 1, ω, .rf i => match ω[i]? with
    | some (.lst xs) => (optAll (rdV n ω) xs).map .list
    | _ => none
  | n + 1, ω, .tp l => (optAll (fun x => rdV n ω x.sv) l).map .tuple
theorem optAll_ok {α β : Type} {f : α → Option β} {R : V → α → Prop} {S : V → β → Prop} (h : ∀ v x y, R v x → f x = some y → S v y) : ∀ {vs : List V} {xs : List α} {ys : List β}, Paired R vs xs → optAll f xs = some ys → Paired S vs ys
  | _, _, _, .nil, e => by cases e; exact .nil
  | _, _, _, .cons (b := x) (l₂ := xs) r t, e => by
    unfold optAll at e
    cases q : f x with
    | none => rw [q] at e; cases e
    | some y =>
      rw [q] at e
      dsimp only at e
      cases q2 : optAll f xs with
      | none => rw [q2] at e; cases e
      | some ys =>
        rw [q2] at e
        cases e
        exact .cons (h _ _ _ r q) (optAll_ok h t q2)
theorem dvs_of : ∀ {vs : List V} {ds : List D}, Paired (DV O K H) vs ds → DVs O K H vs ds
  | _, _, .nil => .nil
  | _, _, .cons h t => .cons h (dvs_of t)
theorem ev_no : Ev O H noO H := Ev.sub fun _ z => z.elim
theorem rd_deep (s : StoOk B K H α ω) : ∀ (n : Nat) {v : V} {x : SV} {d : D}, VOk (ow B α ω) K H α v x → rdV n ω x = some d → DV noO K H v d
  | n, v, .fz d', d, h, e => by
    have e' : some d' = some d := by cases n <;> exact e
    cases e'
    exact DV.ev ev_no h
  | 0, v, .rf i, d, h, e => by cases e
  | 0, v, .tp l, d, h, e => by cases e
  | n + 1, v, .rf i, d, h, e => by
    obtain ⟨a, ha, rfl⟩ := h
    unfold rdV at e
    cases q : ω[i]? with
    | none => rw [q] at e; cases e
    | some c =>
      rw [q] at e
      cases c with
      | lst xs =>
        dsimp only at e
        cases q2 : optAll (rdV n ω) xs with
        | none => rw [q2] at e; cases e
        | some ds =>
          rw [q2] at e
          cases e
          obtain ⟨vs, h1, h2⟩ := s.cel i a _ ha q
          exact .lst ⟨SqLX.of h1, fun z => z.elim⟩ (dvs_of (optAll_ok (R := VOk (ow B α ω) K H α) (S := L3.DV noO K H) (fun v x y r e => rd_deep s n r e) h2 q2))
      | _ => cases e
  | n + 1, v, .tp l, d, h, e => by
    obtain ⟨a, xs, rfl, h1, h2⟩ := h
    unfold rdV at e
    cases q2 : optAll (fun x => rdV n ω x.sv) l with
    | none => rw [q2] at e; cases e
    | some ds =>
      rw [q2] at e
      cases e
      exact .tup (h1.ev ev_no) (dvs_of (optAll_ok (R := AOk (ow B α ω) K H α) (S := L3.DV noO K H) (fun v x y r e => rd_deep s n (x := x.sv) (by cases x <;> exact r) e) h2 q2))
noncomputable def fzs : SV → Option D
  | .fz d => some d
  | _ => none
noncomputable def sh (ω : Sto) : SV → Option D
  | .fz d => some d
  | .rf i => match ω[i]? with
    | some (.lst xs) => (optAll fzs xs).map .list
    | _ => none
  | .tp _ => none
theorem sh_ok (s : StoOk B K H α ω) {v : V} {x : SV} {d : D} (h : VOk (ow B α ω) K H α v x) (e : sh ω x = some d) : DX (ow B α ω) K H v d := by
  cases x with
  | fz d' => cases e; exact DV.x h
  | tp l => cases e
  | rf i =>
    obtain ⟨a, ha, rfl⟩ := h
    unfold sh at e
    dsimp only at e
    cases q : ω[i]? with
    | none => rw [q] at e; cases e
    | some c =>
      rw [q] at e
      cases c with
      | lst xs =>
        dsimp only at e
        cases q2 : optAll fzs xs with
        | none => rw [q2] at e; cases e
        | some ds =>
          rw [q2] at e
          cases e
          obtain ⟨vs, h1, h2⟩ := s.cel i a _ ha q
          refine ⟨a, vs, rfl, SqLX.of h1, dvs_of (optAll_ok (R := VOk (ow B α ω) K H α) (S := L3.DV (ow B α ω) K H) (fun v x y r e => ?_) h2 q2)⟩
          cases x with
          | fz d => cases e; exact r
          | rf i => cases e
          | tp l => cases e
      | _ => cases e
noncomputable def scal : D → Bool
  | .none => true
  | .bool _ => true
  | .int _ => true
  | .str _ => true
  | _ => false
theorem scal_ok {d : D} (h : scal d = true) (dv : DV O K H v d) : DV O' K H' v d := by
  cases dv with
  | non => exact .non
  | bl b => exact .bl b
  | int i => exact .int i
  | str x => exact .str x
  | tup _ _ => cases h
  | lst _ _ => cases h
noncomputable def scalR (ω : Sto) : RV → RS SV
  | .fz d => if scal d = true then .ok (.fz d) ω else .bad
  | .ow _ => .bad
theorem fin_n {Q : VK} {rv : RV} (s : StoOk B K H α ω) (w : WS K E B H α ω (PQ B K Q) (scalR ω rv)) : Fin noO K H Q rv := by
  cases rv with
  | fz d =>
    have w : WS K E B H α ω (PQ B K Q) (if scal d = true then RS.ok (SV.fz d) ω else RS.bad) := w
    by_cases z : scal d = true
    · rw [if_pos z] at w
      exact fun v H' e dv => w α H' (Evo.same e) (s.grow e) v (scal_ok z dv)
    · rw [if_neg z] at w; exact w.elim
  | ow ds => exact w.elim
theorem no_noO : NoneO noO H := fun _ _ z => z
noncomputable def binS (f : D → D → Option RV) (x y : SV) (ω : Sto) : RS SV := match sh ω x, sh ω y with
  | some dx, some dy => (RS.ofO ω (f dx dy)).bind fun rv ω1 => pushR ω1 rv
  | _, _ => (RS.ofO ω (rdV 6 ω x)).bind fun dx ω1 => (RS.ofO ω1 (rdV 6 ω1 y)).bind fun dy ω2 => (RS.ofO ω2 (f dx dy)).bind fun rv ω3 => scalR ω3 rv
theorem bin_ok {r : R2} {f : D → D → Option RV} {x y : V} {a b : SV} {Q : VK} (hr : OpP K r f) (s : StoOk B K H α ω) (hx : VOk (ow B α ω) K H α x a) (hy : VOk (ow B α ω) K H α y b) (w : WS K E B H α ω (PQ B K Q) (binS f a b ω)) : r x y H Q := by
  have deep : WS K E B H α ω (PQ B K Q) ((RS.ofO ω (rdV 6 ω a)).bind fun dx ω1 => (RS.ofO ω1 (rdV 6 ω1 b)).bind fun dy ω2 => (RS.ofO ω2 (f dx dy)).bind fun rv ω3 => scalR ω3 rv) → r x y H Q := fun w => by
    obtain ⟨dx, q1, w⟩ := w.ofO
    obtain ⟨dy, q2, w⟩ := w.ofO
    obtain ⟨rv, q3, w⟩ := w.ofO
    exact hr noO H x y dx dy rv Q no_noO (DV.x (rd_deep s 6 hx q1)) (DV.x (rd_deep s 6 hy q2)) q3 (fin_n s w)
  unfold binS at w
  cases q1 : sh ω a with
  | none => rw [q1] at w; exact deep w
  | some dx =>
    cases q2 : sh ω b with
    | none => rw [q1, q2] at w; exact deep w
    | some dy =>
      rw [q1, q2] at w
      obtain ⟨rv, q3, w⟩ := w.ofO
      exact hr _ H x y dx dy rv Q s.noO (sh_ok s hx q1) (sh_ok s hy q2) q3 (fin_s s w)
noncomputable def asT1 : SV → Option Bool
  | .fz (.bool b) => some b
  | _ => none
theorem asT1_ok {x : SV} {b : Bool} (e : asT1 x = some b) (h : VOk O K H α v x) : v = .bl b := by
  unfold asT1 at e
  split at e
  · cases e; cases h; rfl
  · cases e
noncomputable def boolS (fa : FES) : FTS := fun ρ ω => (fa ρ ω).bind fun x ω1 => RS.ofO ω1 (asT1 x)
theorem tts_test {ta : TE} {fa : FES} (ha : EOS K E ta fa) : TTS K E (tTest ta) (boolS fa) := by
  intro B σ H α ω ρ Q s sl w
  refine ha B σ H α ω ρ _ s sl (w.bind.imp fun x α1 ω1 H1 e1 s1 w1 v hv => ?_)
  cases q : asT1 x with
  | none => rw [q] at w1; exact w1.elim
  | some b => rw [q] at w1; exact ⟨b, asT1_ok q hv, WS.now s1 w1⟩
theorem tts_b {ta : TE} {fa : FES} (ha : EOS K E ta fa) : TTS K E (tB ta) (boolS fa) := tts_test ha
noncomputable def andT (fa fb : FTS) : FTS := fun ρ ω => (fa ρ ω).bind fun b ω1 => if b = true then fb ρ ω1 else .ok false ω1
theorem tts_and {t u : TT} {f g : FTS} (h1 : TTS K E t f) (h2 : TTS K E u g) : TTS K E (tAnd t u) (andT f g) := by
  intro B σ H α ω ρ Q s sl w
  refine h1 B σ H α ω ρ _ s sl (w.bind.imp fun b α1 ω1 H1 e1 s1 w1 => ?_)
  cases b with
  | true => exact h2 B σ H1 α1 ω1 ρ Q s1 (sl.evo e1) w1
  | false => exact WS.now s1 w1
noncomputable def trueT : FTS := fun _ ω => .ok true ω
theorem tts_true : TTS K E tTrue trueT := fun B σ H α ω ρ Q s sl w => WS.now s w
noncomputable def nilS : FAS := fun _ ω => .ok [] ω
noncomputable def consS (fa : FES) (fr : FAS) : FAS := fun ρ ω => (fa ρ ω).bind fun x ω1 => (fr ρ ω1).bind fun xs ω2 => .ok (x :: xs) ω2
theorem aos_nil : AOS K E tNil nilS := fun B σ H α ω ρ Q s sl w => WS.now s w [] .nil
theorem aos_cons {ta : TE} {tr : TA} {fa : FES} {fr : FAS} (ha : EOS K E ta fa) (hr : AOS K E tr fr) : AOS K E (tCons ta tr) (consS fa fr) := by
  intro B σ H α ω ρ Q s sl w
  refine ha B σ H α ω ρ _ s sl (w.bind.imp fun x α1 ω1 H1 e1 s1 w1 v hv => ?_)
  refine hr B σ H1 α1 ω1 ρ _ s1 (sl.evo e1) (w1.bind.imp fun xs α2 ω2 H2 e2 s2 w2 vs hvs => ?_)
  exact WS.now s2 w2 (v :: vs) (.cons (hv.evo e2) hvs)
noncomputable def toA : SV → Option AV
  | .fz d => some (.fz d)
  | .rf i => some (.rf i)
  | .tp _ => none
noncomputable def mkT (xs : List SV) : Option SV := match optAll fzs xs with
  | some ds => some (.fz (.tuple ds))
  | none => (optAll toA xs).map .tp
noncomputable def tupS (fa : FAS) : FES := fun ρ ω => (fa ρ ω).bind fun xs ω1 => if xs.length ≤ 1000 then RS.ofO ω1 (mkT xs) else .bad
theorem fzs_ok {x : SV} {d : D} (r : VOk O K H α v x) (e : fzs x = some d) : DV O K H v d := by
  cases x with
  | fz d => cases e; exact r
  | rf i => cases e
  | tp l => cases e
theorem toA_ok {x : SV} {d : AV} (r : VOk O K H α v x) (e : toA x = some d) : AOk O K H α v d := by
  cases x with
  | fz d => cases e; exact r
  | rf i => cases e; exact r
  | tp l => cases e
theorem eos_tup {ta : TA} {fa : FAS} (ha : AOS K E ta fa) : EOS K E (tTup ta) (tupS fa) := by
  intro B σ H α ω ρ Q s sl w
  refine ha B σ H α ω ρ _ s sl (w.bind.imp fun xs α1 ω1 H1 e1 s1 w1 vs hv => ?_)
  by_cases hn : xs.length ≤ 1000
  · rw [if_pos hn] at w1
    refine ⟨by rw [hv.length]; exact le1000 hn, fun p hp => ?_⟩
    have sm : Same H1 (upd H1 p (.tup vs)) := same_upd hp _
    have e : Evo α1 ω1 H1 α1 ω1 (upd H1 p (.tup vs)) := Evo.same sm
    have ht : SqTO (ow B α1 ω1) K (upd H1 p (.tup vs)) p vs := ⟨SqT.of upd_same, fun z => absurd z (s1.noO p hp)⟩
    unfold mkT at w1
    cases q : optAll fzs xs with
    | some ds =>
      rw [q] at w1
      exact w1 α1 _ e (s1.grow sm) _ (.tup ht (dvs_of (optAll_ok (R := VOk (ow B α1 ω1) K H1 α1) (S := L3.DV (ow B α1 ω1) K (upd H1 p (.tup vs))) (fun v x y r e' => (fzs_ok r e').ev e.ev) hv q)))
    | none =>
      rw [q] at w1
      dsimp only at w1
      cases q2 : optAll toA xs with
      | none => rw [q2] at w1; exact w1.elim
      | some l =>
        rw [q2] at w1
        exact w1 α1 _ e (s1.grow sm) _ ⟨p, vs, rfl, ht, optAll_ok (R := VOk (ow B α1 ω1) K H1 α1) (S := AOk (ow B α1 ω1) K (upd H1 p (.tup vs)) α1) (fun v x y r e' => (toA_ok r e').ev e.ev e.pre) hv q2⟩
  · rw [if_neg hn] at w1; exact w1.elim
noncomputable def cbvS (f : List D → Option RV) (xs : List SV) (ω : Sto) : RS SV := match optAll (sh ω) xs with
  | some ds => (RS.ofO ω (f ds)).bind fun rv ω1 => pushR ω1 rv
  | _ => (RS.ofO ω (optAll (rdV 6 ω) xs)).bind fun ds ω1 => (RS.ofO ω1 (f ds)).bind fun rv ω3 => scalR ω3 rv
noncomputable def cbS (f : List D → Option RV) (fa : FAS) : FES := fun ρ ω => (fa ρ ω).bind fun xs ω1 => cbvS f xs ω1
theorem eos_cb {r : List V → Hp → VK → Prop} {f : List D → Option RV} {ta : TA} {fa : FAS} (hr : CbP K r f) (ha : AOS K E ta fa) : EOS K E (tCB r ta) (cbS f fa) := by
  intro B σ H α ω ρ Q s sl w
  refine ha B σ H α ω ρ _ s sl (w.bind.imp fun xs α1 ω1 H1 e1 s1 w1 vs hv => ?_)
  unfold cbvS at w1
  cases q1 : optAll (sh ω1) xs with
  | none =>
    rw [q1] at w1
    obtain ⟨ds, q2, w1⟩ := w1.ofO
    obtain ⟨rv, q3, w1⟩ := w1.ofO
    exact hr noO H1 vs ds rv Q no_noO (optAll_ok (R := VOk (ow B α1 ω1) K H1 α1) (S := DX noO K H1) (fun v x y r e => DV.x (rd_deep s1 6 r e)) hv q2) q3 (fin_n s1 w1)
  | some ds =>
    rw [q1] at w1
    obtain ⟨rv, q3, w1⟩ := w1.ofO
    exact hr _ H1 vs ds rv Q s1.noO (optAll_ok (R := VOk (ow B α1 ω1) K H1 α1) (S := DX (ow B α1 ω1) K H1) (fun v x y r e => sh_ok s1 r e) hv q1) q3 (fin_s s1 w1)
end
end L10
namespace L10
open PySem L2 L3
section
variable {B O O' : Own} {K : PySem.W.Frag} {E : XK} {H H' H1 H2 : Hp} {α α' α1 α2 : List Addr} {ω ω' ω1 ω2 : Sto} {σ : L2.St} {ρ : SEnv} {v : V}
theorem pr_get {β : Type} {R : V → β → Prop} : ∀ {vs : List V} {xs : List β} {i : Nat} {x : β}, Paired R vs xs → xs[i]? = some x → ∃ v, vs[i]? = some v ∧ R v x
  | _, _, _, _, .nil, e => by simp at e
  | _, _, 0, _, .cons h _, e => by simp at e; subst e; exact ⟨_, rfl, h⟩
  | _, _, i + 1, x, .cons _ t, e => by
    obtain ⟨v, h1, h2⟩ := pr_get (i := i) (x := x) t (by simpa using e)
    exact ⟨v, by simpa using h1, h2⟩
theorem pr_at {β : Type} {R : V → β → Prop} {vs : List V} {xs : List β} {i : Int} {x : β} (h : Paired R vs xs) (e : atI xs i = some x) : ∃ v, atI vs i = some v ∧ R v x := by
  unfold atI at e ⊢
  rw [h.length]
  cases q : ixN xs.length i with
  | none => rw [q] at e; cases e
  | some j => rw [q] at e; exact pr_get h e
noncomputable def intV : SV → Option Int
  | .fz (.int i) => some i
  | _ => none
theorem intV_ok {x : SV} {i : Int} (e : intV x = some i) (h : VOk O K H α v x) : v = .int i := by
  unfold intV at e
  split at e
  · cases e; cases h; rfl
  · cases e
noncomputable def ixvS (x y : SV) (ω : Sto) : RS SV := match x with
  | .fz _ => binS ixD x y ω
  | .rf j => (match ω[j]? with
    | some (.lst xs) => (RS.ofO ω (intV y)).bind fun i ω1 => RS.ofO ω1 (atI xs i)
    | _ => .bad)
  | .tp l => (RS.ofO ω (intV y)).bind fun i ω1 => RS.ofO ω1 ((atI l i).map AV.sv)
noncomputable def ixS (fa fb : FES) : FES := fun ρ ω => (fa ρ ω).bind fun x ω1 => (fb ρ ω1).bind fun y ω2 => ixvS x y ω2
theorem eos_ix {ta tb : TE} {fa fb : FES} (ha : EOS K E ta fa) (hb : EOS K E tb fb) : EOS K E (tOp (rIx K) ta tb) (ixS fa fb) := by
  intro B σ H α ω ρ Q s sl w
  refine ha B σ H α ω ρ _ s sl (w.bind.imp fun x α1 ω1 H1 e1 s1 w1 v hv => ?_)
  refine hb B σ H1 α1 ω1 ρ _ s1 (sl.evo e1) (w1.bind.imp fun y α2 ω2 H2 e2 s2 w2 u hu => ?_)
  have hv := hv.evo e2
  unfold ixvS at w2
  cases x with
  | fz d => exact bin_ok opp_ix s2 hv hu w2
  | rf j =>
    obtain ⟨a, ha, rfl⟩ := hv
    dsimp only at w2
    cases q : ω2[j]? with
    | none => rw [q] at w2; exact w2.elim
    | some c =>
      rw [q] at w2
      cases c with
      | lst xs =>
        obtain ⟨i, qi, w2⟩ := WS.ofO w2
        cases qa : atI xs i with
        | none => rw [qa] at w2; exact w2.elim
        | some x =>
          rw [qa] at w2
          obtain ⟨vs, h1, h2⟩ := s2.cel j a _ ha q
          obtain ⟨z, hz, vz⟩ := pr_at h2 qa
          exact .inl ⟨a, vs, i, z, rfl, intV_ok qi hu, SqL.of h1, hz, WS.now s2 w2 z vz⟩
      | _ => exact w2.elim
  | tp l =>
    obtain ⟨a, xs, rfl, h1, h2⟩ := hv
    obtain ⟨i, qi, w2⟩ := WS.ofO w2
    cases qa : atI l i with
    | none => rw [qa] at w2; exact w2.elim
    | some x =>
      rw [qa] at w2
      obtain ⟨z, hz, vz⟩ := pr_at h2 qa
      exact .inr (.inl ⟨a, xs, i, z, rfl, intV_ok qi hu, h1.1, hz, WS.now s2 w2 z (by cases x <;> exact vz)⟩)
theorem lv_kill {i : Nat} {b : Addr} (h : Lv α (ω.set i .dead) b) : Lv α ω b := by
  obtain ⟨j, c, h1, h2, h3⟩ := h
  rcases set_get h2 with ⟨rfl, rfl⟩ | ⟨_, h2⟩
  · exact absurd rfl h3
  · exact ⟨j, c, h1, h2, h3⟩
theorem Evo.kill {i : Nat} : Evo α ω H α (ω.set i .dead) H := ⟨fun _ _ h => h, fun _ _ h _ => h, fun _ h => .inl (lv_kill h)⟩
theorem StoOk.kill (s : StoOk B K H α ω) (i : Nat) : StoOk B K H α (ω.set i .dead) := by
  have e : Evo α ω H α (ω.set i .dead) H := Evo.kill
  refine ⟨by rw [List.length_set]; exact s.len, s.nd, s.bn, s.ba, s.al, fun j b d h1 h2 => ?_⟩
  rcases set_get h2 with ⟨rfl, rfl⟩ | ⟨hne, h2⟩
  · exact trivial
  · exact (s.cel j b d h1 h2).ev e.ev e.pre fun u q => q
theorem StoOk.killed (s : StoOk B K H α ω) {i : Nat} {a : Addr} (ha : α[i]? = some a) : ¬ ow B α (ω.set i .dead) a := by
  rintro (z | ⟨j, c, h1, h2, h3⟩)
  · exact s.notB ha z
  · have := s.nd j i a h1 ha
    subst this
    rcases set_get h2 with ⟨_, rfl⟩ | ⟨hne, _⟩
    · exact h3 rfl
    · exact hne rfl
noncomputable def frzL (g : Sto → SV → Option (D × Sto)) : Sto → List SV → Option (List D × Sto)
  | ω, [] => some ([], ω)
  | ω, x :: r => match g ω x with
    | some (d, ω1) => (match frzL g ω1 r with
      | some (ds, ω2) => some (d :: ds, ω2)
      | none => none)
    | none => none
noncomputable def frz : Nat → Sto → SV → Option (D × Sto)
  | _, ω, .fz d => some (d, ω)
  | 0, _, _ => none
  | n + 1, ω, .rf i => match ω[i]? with
    | some (.lst xs) => (match frzL (frz n) ω xs with
      | some (ds, ω1) => some (.list ds, ω1.set i .dead)
      | none => none)
    | _ => none
  | n + 1, ω, .tp l => match frzL (frz n) ω (l.map AV.sv) with
    | some (ds, ω1) => some (.tuple ds, ω1)
    | none => none
theorem frzL_ok {g : Sto → SV → Option (D × Sto)} (hg : ∀ {ω ω' : Sto} {v : V} {x : SV} {d : D}, StoOk B K H α ω → VOk (ow B α ω) K H α v x → g ω x = some (d, ω') → StoOk B K H α ω' ∧ Evo α ω H α ω' H ∧ L3.DV (ow B α ω') K H v d) :
    ∀ {vs : List V} {xs : List SV} {ds : List D} {ω ω' : Sto}, StoOk B K H α ω → VsOk (ow B α ω) K H α vs xs → frzL g ω xs = some (ds, ω') → StoOk B K H α ω' ∧ Evo α ω H α ω' H ∧ L3.DVs (ow B α ω') K H vs ds
  | _, _, _, ω, ω', s, .nil, e => by cases e; exact ⟨s, .refl, .nil⟩
  | _, _, _, ω, ω', s, .cons (b := x) (l₂ := xs) r t, e => by
    unfold frzL at e
    cases q : g ω x with
    | none => rw [q] at e; cases e
    | some p =>
      obtain ⟨d, ω1⟩ := p
      rw [q] at e
      dsimp only at e
      obtain ⟨s1, e1, d1⟩ := hg s r q
      cases q2 : frzL g ω1 xs with
      | none => rw [q2] at e; cases e
      | some p2 =>
        obtain ⟨ds, ω2⟩ := p2
        rw [q2] at e
        cases e
        obtain ⟨s2, e2, d2⟩ := frzL_ok hg s1 (VsOk.evo e1 t) q2
        exact ⟨s2, e1.trans e2, .cons (d1.ev e2.ev) d2⟩
theorem sv_list : ∀ {vs : List V} {l : List AV}, Paired (AOk O K H α) vs l → VsOk O K H α vs (l.map AV.sv)
  | _, _, .nil => .nil
  | _, _, .cons (b := x) h t => .cons (by cases x <;> exact h) (sv_list t)
theorem frz_ok : ∀ (n : Nat) {ω ω' : Sto} {v : V} {x : SV} {d : D}, StoOk B K H α ω → VOk (ow B α ω) K H α v x → frz n ω x = some (d, ω') → StoOk B K H α ω' ∧ Evo α ω H α ω' H ∧ L3.DV (ow B α ω') K H v d
  | n, ω, ω', v, .fz d', d, s, h, e => by
    have e' : some (d', ω) = some (d, ω') := by cases n <;> exact e
    cases e'
    exact ⟨s, .refl, h⟩
  | 0, _, _, v, .rf i, d, s, h, e => by cases e
  | 0, _, _, v, .tp l, d, s, h, e => by cases e
  | n + 1, ω, ω', v, .rf i, d, s, h, e => by
    obtain ⟨a, ha, rfl⟩ := h
    unfold frz at e
    cases q : ω[i]? with
    | none => rw [q] at e; cases e
    | some c =>
      rw [q] at e
      cases c with
      | lst xs =>
        dsimp only at e
        obtain ⟨vs, h1, h2⟩ := s.cel i a _ ha q
        cases q2 : frzL (frz n) ω xs with
        | none => rw [q2] at e; cases e
        | some p =>
          obtain ⟨ds, ω1⟩ := p
          rw [q2] at e
          cases e
          obtain ⟨s1, e1, d1⟩ := frzL_ok (fun s h e => frz_ok n s h e) s h2 q2
          exact ⟨s1.kill i, e1.trans Evo.kill, lst_of h1 (s1.killed ha) (d1.ev (Evo.kill (i := i)).ev)⟩
      | _ => cases e
  | n + 1, ω, ω', v, .tp l, d, s, h, e => by
    obtain ⟨a, xs, rfl, h1, h2⟩ := h
    unfold frz at e
    cases q2 : frzL (frz n) ω (l.map AV.sv) with
    | none => rw [q2] at e; cases e
    | some p =>
      obtain ⟨ds, ω1⟩ := p
      rw [q2] at e
      cases e
      obtain ⟨s1, e1, d1⟩ := frzL_ok (fun s h e => frz_ok n s h e) s (sv_list h2) q2
      exact ⟨s1, e1, .tup (h1.ev e1.ev) d1⟩
noncomputable def frzR (x : SV) (ω : Sto) : RS SV := match frz 4 ω x with
  | some (d, ω1) => .ok (.fz d) ω1
  | none => .bad
noncomputable def frzS (f : FES) : FES := fun ρ ω => (f ρ ω).bind fun x ω1 => frzR x ω1
theorem eos_frz {t : TE} {f : FES} (h : EOS K E t f) : EOS K E t (frzS f) := by
  intro B σ H α ω ρ Q s sl w
  refine h B σ H α ω ρ _ s sl (w.bind.imp fun x α1 ω1 H1 e1 s1 w1 v hv => ?_)
  unfold frzR at w1
  cases q : frz 4 ω1 x with
  | none => rw [q] at w1; exact w1.elim
  | some p =>
    obtain ⟨d, ω2⟩ := p
    rw [q] at w1
    obtain ⟨s2, e2, d2⟩ := frz_ok 4 s1 hv q
    exact w1 α1 H1 e2 s2 v d2
theorem XOk.sub {c : Value} {dx : Option Addr} {x : Xc} (h : ∀ b, O' b → O b) (k : XOk K O H c dx x) : XOk K O' H c dx x := by
  obtain ⟨h1, fs, h2, h3⟩ := k
  exact ⟨h1, fs, h2, fun f d e => let ⟨g1, v, g2, g3⟩ := h3 f d e; ⟨g1, v, g2, g3.ev (Ev.sub h)⟩⟩
noncomputable def noErS {A : Type} : RS A → RS A
  | .er _ _ => .bad
  | r => r
theorem WS.e0 {A : Type} {P : A → List Addr → Sto → Hp → Prop} {r : RS A} (h : WS K E B H α ω P (noErS r)) : WS K E0 B H α ω P r := by
  cases r with
  | ok a ω => exact h
  | er x ω => exact h.elim
  | bad => exact h
noncomputable abbrev FNS := List SV → Sto → RS SV
noncomputable def spS (K : PySem.W.Frag) (n : Nat) (F : FNS) : Sp := fun vs H Q E => vs.length = n ∧ ∃ (B : Own) (α : List Addr) (ω : Sto) (xs : List SV), StoOk B K H α ω ∧ VsOk (ow B α ω) K H α vs xs ∧ WS K E B H α ω (PQ B K Q) (F xs ω)
noncomputable def calS0 (F : FNS) (n : Nat) (fa : FAS) : FES := fun ρ ω => (fa ρ ω).bind fun xs ω1 => if xs.length = n then noErS (F xs ω1) else .bad
theorem eos_calS0 {F : FNS} {n : Nat} {ta : TA} {fa : FAS} (ha : AOS K E ta fa) : EOS K E (tCall (spS K n F) [] E0 ta) (calS0 F n fa) := by
  intro B σ H α ω ρ Q s sl w
  refine ha B σ H α ω ρ _ s sl (w.bind.imp fun xs α1 ω1 H1 e1 s1 w1 vs hv => ?_)
  rw [List.append_nil]
  by_cases hn : xs.length = n
  · rw [if_pos hn] at w1
    exact ⟨hv.length.trans hn, B, α1, ω1, xs, s1, hv, WS.e0 w1⟩
  · rw [if_neg hn] at w1; exact w1.elim
theorem pr_snoc {β : Type} {R : V → β → Prop} {vs : List V} {xs : List β} {v : V} {x : β} (h : Paired R vs xs) (r : R v x) : Paired R (vs ++ [v]) (xs ++ [x]) := by
  induction h with
  | nil => exact .cons r .nil
  | cons a _ ih => exact .cons a ih
end
end L10
namespace L10
open PySem L2 L3
inductive FlS where
  | nx (ρ : SEnv)
  | bk (ρ : SEnv)
  | ct (ρ : SEnv)
  | rt (x : SV)
noncomputable abbrev FSS := SEnv → Sto → RS FlS
noncomputable abbrev FGS := SV → SEnv → Sto → RS SEnv
noncomputable abbrev FGsS := List SV → SEnv → Sto → RS SEnv
noncomputable def FlOkS (B : Own) (K : PySem.W.Frag) (D : Ends) : FlS → List Addr → Sto → Hp → Prop
  | .nx ρ, α, ω, H => ∀ σ, SlOk (ow B α ω) K H α σ ρ → D.nx σ H
  | .bk ρ, α, ω, H => ∀ σ, SlOk (ow B α ω) K H α σ ρ → D.bk σ H
  | .ct ρ, α, ω, H => ∀ σ, SlOk (ow B α ω) K H α σ ρ → D.ct σ H
  | .rt x, α, ω, H => ∀ v, VOk (ow B α ω) K H α v x → D.rt v H
noncomputable def SOS (K : PySem.W.Frag) (E : XK) (t : TS) (g : FSS) : Prop :=
  ∀ (B : Own) (σ : L2.St) (H : Hp) (α : List Addr) (ω : Sto) (ρ : SEnv) (D : Ends), StoOk B K H α ω → SlOk (ow B α ω) K H α σ ρ → WS K E B H α ω (FlOkS B K D) (g ρ ω) → t D σ H
noncomputable def GOS (K : PySem.W.Frag) (E : XK) (g : TG) (f : FGS) : Prop :=
  ∀ (B : Own) (σ : L2.St) (H : Hp) (α : List Addr) (ω : Sto) (ρ : SEnv) (v : V) (x : SV) (Q : L2.St → Hp → Prop), StoOk B K H α ω → SlOk (ow B α ω) K H α σ ρ → VOk (ow B α ω) K H α v x → WS K E B H α ω (fun ρ' α' ω' H' => ∀ σ', SlOk (ow B α' ω') K H' α' σ' ρ' → Q σ' H') (f x ρ ω) → g v σ H Q
noncomputable def GsOS (K : PySem.W.Frag) (E : XK) (g : TGs) (f : FGsS) : Prop :=
  ∀ (B : Own) (σ : L2.St) (H : Hp) (α : List Addr) (ω : Sto) (ρ : SEnv) (vs : List V) (xs : List SV) (Q : L2.St → Hp → Prop), StoOk B K H α ω → SlOk (ow B α ω) K H α σ ρ → VsOk (ow B α ω) K H α vs xs → WS K E B H α ω (fun ρ' α' ω' H' => ∀ σ', SlOk (ow B α' ω') K H' α' σ' ρ' → Q σ' H') (f xs ρ ω) → g vs σ H Q
section
variable {B O O' : Own} {K : PySem.W.Frag} {E : XK} {H H' H1 H2 : Hp} {α α' α1 α2 : List Addr} {ω ω' ω1 ω2 : Sto} {σ : L2.St} {ρ : SEnv} {v : V}
theorem SlOk.set {i : Nat} {x : SV} (sl : SlOk O K H α σ ρ) (h : VOk O K H α v x) : SlOk O K H α (σ.set i (some v)) (ρ.set i (some x)) := by
  refine ⟨by rw [List.length_set, List.length_set]; exact sl.1, fun j y hy => ?_⟩
  rcases set_get hy with ⟨rfl, e⟩ | ⟨hne, hy'⟩
  · cases e
    refine ⟨v, ?_, h⟩
    rw [List.getElem?_set_self]
    have := set_hit hy
    rw [sl.1]; exact this
  · obtain ⟨u, h1, h2⟩ := sl.2 j y hy'
    exact ⟨u, by rw [List.getElem?_set_ne (fun z => hne z.symm)]; exact h1, h2⟩
noncomputable def gnS (i : Nat) : FGS := fun x ρ ω => .ok (ρ.set i (some x)) ω
theorem gos_name {i : Nat} : GOS K E (gName i) (gnS i) := fun B σ H α ω ρ v x Q s sl h w => WS.now s w _ (sl.set h)
noncomputable def gs0S : FGsS := fun xs ρ ω => match xs with
  | [] => .ok ρ ω
  | _ => .bad
noncomputable def gscS (f : FGS) (g : FGsS) : FGsS := fun xs ρ ω => match xs with
  | x :: r => (f x ρ ω).bind fun ρ1 ω1 => g r ρ1 ω1
  | [] => .bad
theorem gss_nil : GsOS K E gNil gs0S := by
  intro B σ H α ω ρ vs xs Q s sl h w
  cases h with
  | nil => exact ⟨rfl, WS.now s w _ sl⟩
  | cons _ _ => exact w.elim
theorem gss_cons {t : TG} {u : TGs} {f : FGS} {g : FGsS} (h1 : GOS K E t f) (h2 : GsOS K E u g) : GsOS K E (gCons t u) (gscS f g) := by
  intro B σ H α ω ρ vs xs Q s sl h w
  cases h with
  | nil => exact w.elim
  | cons a b =>
    refine ⟨_, _, rfl, h1 B σ H α ω ρ _ _ _ s sl a (WS.imp (WS.bind w) fun ρ1 α1 ω1 H1 e1 s1 w1 σ1 sl1 => ?_)⟩
    exact h2 B σ1 H1 α1 ω1 ρ1 _ _ _ s1 sl1 (VsOk.evo e1 b) w1
noncomputable def tupOf : SV → Option (List SV)
  | .fz (.tuple ds) => some (ds.map .fz)
  | .tp l => some (l.map AV.sv)
  | _ => none
theorem tup_of {x : SV} {xs : List SV} (h : VOk O K H α v x) (e : tupOf x = some xs) : ∃ a vs, v = .ref a ∧ SqTO O K H a vs ∧ VsOk O K H α vs xs := by
  unfold tupOf at e
  split at e
  · cases e
    cases h with
    | tup h hs => exact ⟨_, _, rfl, h, dvs_vs _ _ hs⟩
  · cases e
    obtain ⟨a, ys, rfl, h1, h2⟩ := h
    exact ⟨a, ys, rfl, h1, sv_list h2⟩
  · cases e
noncomputable def gtS (n : Nat) (f : FGsS) : FGS := fun x ρ ω => (RS.ofO ω (tupOf x)).bind fun xs ω1 => if xs.length = n then f xs ρ ω1 else .bad
theorem gos_tup {n : Nat} {t : TGs} {f : FGsS} (h : GsOS K E t f) : GOS K E (gTup K n t) (gtS n f) := by
  intro B σ H α ω ρ v x Q s sl hv w
  obtain ⟨xs, q, w⟩ := WS.ofO w
  obtain ⟨a, vs, rfl, h1, h2⟩ := tup_of hv q
  by_cases hn : xs.length = n
  · rw [if_pos hn] at w
    exact ⟨a, vs, rfl, h1.1, h2.length.trans hn, h B σ H α ω ρ vs xs Q s sl h2 w⟩
  · rw [if_neg hn] at w; exact w.elim
noncomputable def nextS : FSS := fun ρ ω => .ok (.nx ρ) ω
noncomputable def seqS (f g : FSS) : FSS := fun ρ ω => (f ρ ω).bind fun fl ω1 => match fl with
  | .nx ρ1 => g ρ1 ω1
  | fl => .ok fl ω1
noncomputable def dropS (f : FES) : FSS := fun ρ ω => (f ρ ω).bind fun _ ω1 => .ok (.nx ρ) ω1
noncomputable def asgS (f : FES) (g : FGS) : FSS := fun ρ ω => (f ρ ω).bind fun x ω1 => (g x ρ ω1).bind fun ρ1 ω2 => .ok (.nx ρ1) ω2
noncomputable def iffS (c : FTS) (f g : FSS) : FSS := fun ρ ω => (c ρ ω).bind fun b ω1 => if b = true then f ρ ω1 else g ρ ω1
noncomputable def retS (f : FES) : FSS := fun ρ ω => (f ρ ω).bind fun x ω1 => .ok (.rt x) ω1
theorem sos_next : SOS K E tNext nextS := fun B σ H α ω ρ D s sl w => WS.now s w σ sl
theorem sos_seq {t u : TS} {f g : FSS} (h1 : SOS K E t f) (h2 : SOS K E u g) : SOS K E (tSeq t u) (seqS f g) := by
  intro B σ H α ω ρ D s sl w
  refine h1 B σ H α ω ρ { D with nx := u D } s sl (WS.imp (WS.bind w) fun fl α1 ω1 H1 e1 s1 w1 => ?_)
  cases fl with
  | nx ρ1 => exact fun σ1 sl1 => h2 B σ1 H1 α1 ω1 ρ1 D s1 sl1 w1
  | rt x => exact WS.now (E := E) s1 w1
  | bk ρ1 => exact WS.now (E := E) s1 w1
  | ct ρ1 => exact WS.now (E := E) s1 w1
theorem sos_drop {t : TE} {f : FES} (h : EOS K E t f) : SOS K E (tDrop t) (dropS f) := by
  intro B σ H α ω ρ D s sl w
  exact h B σ H α ω ρ _ s sl (WS.imp (WS.bind w) fun x α1 ω1 H1 e1 s1 w1 v hv => WS.now s1 w1 σ (sl.evo e1))
theorem sos_asg {t : TE} {f : FES} {g : TG} {fg : FGS} (h : EOS K E t f) (hg : GOS K E g fg) : SOS K E (tAsg t g) (asgS f fg) := by
  intro B σ H α ω ρ D s sl w
  refine h B σ H α ω ρ _ s sl (WS.imp (WS.bind w) fun x α1 ω1 H1 e1 s1 w1 v hv => ?_)
  exact hg B σ H1 α1 ω1 ρ v x _ s1 (sl.evo e1) hv (WS.imp (WS.bind w1) fun ρ1 α2 ω2 H2 e2 s2 w2 σ2 sl2 => WS.now s2 w2 σ2 sl2)
theorem sos_if {c : TT} {fc : FTS} {t u : TS} {f g : FSS} (hc : TTS K E c fc) (h1 : SOS K E t f) (h2 : SOS K E u g) : SOS K E (tIfS c t u) (iffS fc f g) := by
  intro B σ H α ω ρ D s sl w
  refine hc B σ H α ω ρ _ s sl (WS.imp (WS.bind w) fun b α1 ω1 H1 e1 s1 w1 => ?_)
  cases b with
  | true => exact h1 B σ H1 α1 ω1 ρ D s1 (sl.evo e1) w1
  | false => exact h2 B σ H1 α1 ω1 ρ D s1 (sl.evo e1) w1
theorem sos_ret {t : TE} {f : FES} (h : EOS K E t f) : SOS K E (tRet t) (retS f) := by
  intro B σ H α ω ρ D s sl w
  exact h B σ H α ω ρ _ s sl (WS.imp (WS.bind w) fun x α1 ω1 H1 e1 s1 w1 v hv => WS.now s1 w1 v hv)
noncomputable abbrev FIS := SEnv → Sto → RS (List D)
noncomputable def IOT (K : PySem.W.Frag) (E : XK) (wi : TI) (fi : FIS) : Prop :=
  ∀ (B : Own) (σ : L2.St) (H : Hp) (α : List Addr) (ω : Sto) (ρ : SEnv) (R' : It → Hp → Prop), StoOk B K H α ω → SlOk (ow B α ω) K H α σ ρ → WS K E B H α ω (fun ds α' ω' H' => ∀ J, ItOk K J (ow B α' ω') H' ds → R' J H') (fi ρ ω) → wi σ H R'
noncomputable def liftI (f : FI) : FIS := fun ρ ω => match f (pureE ρ) with
  | .ok (ds, _) => .ok ds ω
  | .er x => .er x ω
  | .bad => .bad
theorem iot_lift {wi : TI} {f : FI} (h : IO K E wi f) : IOT K E wi (liftI f) := by
  intro B σ H α ω ρ R' s sl w
  refine h (ow B α ω) H (ow B α ω) σ H (pureE ρ) R' (rl_of s sl) ?_
  unfold liftI at w
  cases q : f (pureE ρ) with
  | bad => rw [q] at w; exact w.elim
  | er x => rw [q] at w; exact fun c dx H' e k => w c dx α H' (Evo.same e) (s.grow e) k
  | ok r =>
    obtain ⟨ds, ρ'⟩ := r
    rw [q] at w
    exact fun O' J H' e R it => w α H' (Evo.same R.same) (s.grow R.same) J fun O2 H2 e2 n => it O2 H2 (fun b o h z => e2 b o h fun y => z (R.bo b y)) n
noncomputable def iseqS (fe : FES) : FIS := fun ρ ω => (fe ρ ω).bind fun x ω1 => (match frz 4 ω1 x with
  | some (d, ω2) => RS.ofO ω2 (asSeq d)
  | none => .bad)
theorem iot_seq {tl : TE} {fe : FES} (h : EOS K E tl fe) : IOT K E (iSeqT K tl) (iseqS fe) := by
  intro B σ H α ω ρ R' s sl w
  refine h B σ H α ω ρ _ s sl (WS.imp (WS.bind w) fun x α1 ω1 H1 e1 s1 w1 v hv => ?_)
  cases q : frz 4 ω1 x with
  | none => rw [q] at w1; exact w1.elim
  | some p =>
    obtain ⟨d, ω2⟩ := p
    rw [q] at w1
    obtain ⟨s2, e2, d2⟩ := frz_ok 4 s1 hv q
    dsimp only at w1
    cases qs : asSeq d with
    | none => rw [qs] at w1; exact w1.elim
    | some ds =>
      rw [qs] at w1
      cases d2 with
      | tup h hs => cases qs; exact ⟨_, rfl, .inr ⟨⟨_, h.1⟩, w1 α1 H1 e2 s2 _ (it_tup h hs)⟩⟩
      | lst h hs => cases qs; exact ⟨_, rfl, .inl ⟨⟨_, h.1.sq⟩, w1 α1 H1 e2 s2 _ (it_list h hs)⟩⟩
      | _ => cases qs
noncomputable def fordS (gt : FGS) (b : FSS) : List D → FSS
  | [], ρ, ω => .ok (.nx ρ) ω
  | d :: r, ρ, ω => (gt (.fz d) ρ ω).bind fun ρ1 ω1 => (b ρ1 ω1).bind fun fl ω2 => match fl with
    | .nx ρ2 => fordS gt b r ρ2 ω2
    | .ct ρ2 => fordS gt b r ρ2 ω2
    | .bk ρ2 => .ok (.nx ρ2) ω2
    | .rt x => .ok (.rt x) ω2
noncomputable def forS (fi : FIS) (gt : FGS) (b : FSS) : FSS := fun ρ ω => (fi ρ ω).bind fun ds ω1 => fordS gt b ds ρ ω1
theorem sos_for {wi : TI} {fi : FIS} {g : TG} {gt : FGS} {tb : TS} {b : FSS} (hi : IOT K E wi fi) (hg : GOS K E g gt) (hb : SOS K E tb b) : SOS K E (tFor wi g tb) (forS fi gt b) := by
  intro B σ H α ω ρ D s sl w
  refine hi B σ H α ω ρ _ s sl (WS.imp (WS.bind w) fun ds α1 ω1 H1 e1 s1 w1 J it => ?_)
  refine ⟨fun i m σ' H' => m = ds.length - i ∧ i ≤ ds.length ∧ ∃ α2 ω2 ρ2, Evo α1 ω1 H1 α2 ω2 H' ∧ StoOk B K H' α2 ω2 ∧ SlOk (ow B α2 ω2) K H' α2 σ' ρ2 ∧ WS K E B H' α2 ω2 (FlOkS B K D) (fordS gt b (ds.drop i) ρ2 ω2), ⟨_, rfl, Nat.zero_le _, α1, ω1, ρ, .refl, s1, sl.evo e1, w1⟩, ?_⟩
  rintro i m σ2 H2 ⟨rfl, hi, α2, ω2, ρ2, e2, s2, sl2, w2⟩
  obtain ⟨go, stop⟩ := it (ow B α2 ω2) H2 e2.ev s2.noO
  by_cases hlt : i < ds.length
  · obtain ⟨g1, g2⟩ := go i hlt
    refine .inr ⟨g1, fun σ' H' => i + 1 ≤ ds.length ∧ ∃ α2 ω2 ρ2, Evo α1 ω1 H1 α2 ω2 H' ∧ StoOk B K H' α2 ω2 ∧ SlOk (ow B α2 ω2) K H' α2 σ' ρ2 ∧ WS K E B H' α2 ω2 (FlOkS B K D) (fordS gt b (ds.drop (i + 1)) ρ2 ω2), fun σ' H' ⟨h1, h2⟩ => ⟨ds.length - (i + 1), by omega, rfl, h1, h2⟩, fun x H3 y => ?_⟩
    obtain ⟨s3, d, hd, dv⟩ := g2 x H3 y
    have ed : ds.drop i = d :: ds.drop (i + 1) := by
      obtain ⟨_, q⟩ := List.getElem?_eq_some_iff.mp hd
      rw [List.drop_eq_getElem_cons hlt, q]
    rw [ed] at w2
    have e3 : Evo α2 ω2 H2 α2 ω2 H3 := Evo.same s3
    refine hg B σ2 H3 α2 ω2 ρ2 x (.fz d) _ (s2.grow s3) (sl2.evo e3) dv (WS.imp (WS.bind (WS.from e3 w2)) fun ρ3 α4 ω4 H4 e4 s4 w3 σ4 sl4 => ?_)
    refine hb B σ4 H4 α4 ω4 ρ3 _ s4 sl4 (WS.imp (WS.bind w3) fun fl α5 ω5 H5 e5 s5 w4 => ?_)
    have e5' : Evo α1 ω1 H1 α5 ω5 H5 := e2.trans (e3.trans (e4.trans e5))
    cases fl with
    | nx ρ5 => exact fun σ5 sl5 => ⟨hlt, α5, ω5, ρ5, e5', s5, sl5, w4⟩
    | ct ρ5 => exact fun σ5 sl5 => ⟨hlt, α5, ω5, ρ5, e5', s5, sl5, w4⟩
    | bk ρ5 => exact WS.now (E := E) s5 w4
    | rt x => exact WS.now (E := E) s5 w4
  · have e : i = ds.length := by omega
    subst e
    rw [List.drop_eq_nil_of_le (Nat.le_refl _)] at w2
    exact .inl ⟨stop, WS.now (E := E) s2 w2 σ2 sl2⟩
noncomputable def whlS (c : FTS) (b : FSS) : Nat → FSS
  | 0, _, _ => .bad
  | n + 1, ρ, ω => (c ρ ω).bind fun k ω1 => if k = true then (b ρ ω1).bind fun fl ω2 => match fl with
    | .nx ρ2 => whlS c b n ρ2 ω2
    | .ct ρ2 => whlS c b n ρ2 ω2
    | .bk ρ2 => .ok (.nx ρ2) ω2
    | .rt x => .ok (.rt x) ω2 else .ok (.nx ρ) ω1
noncomputable def whileS (c : FTS) (b : FSS) : FSS := whlS c b 1000000
theorem sos_while {c : TT} {fc : FTS} {tb : TS} {b : FSS} (hc : TTS K E c fc) (hb : SOS K E tb b) : SOS K E (tWhile c tb) (whileS fc b) := by
  intro B σ H α ω ρ D s sl w
  refine ⟨fun m σ' H' => ∃ α2 ω2 ρ2, Evo α ω H α2 ω2 H' ∧ StoOk B K H' α2 ω2 ∧ SlOk (ow B α2 ω2) K H' α2 σ' ρ2 ∧ WS K E B H' α2 ω2 (FlOkS B K D) (whlS fc b m ρ2 ω2), ⟨_, α, ω, ρ, .refl, s, sl, w⟩, ?_⟩
  rintro m σ2 H2 ⟨α2, ω2, ρ2, e2, s2, sl2, w2⟩
  cases m with
  | zero => exact w2.elim
  | succ m =>
    refine hc B σ2 H2 α2 ω2 ρ2 _ s2 sl2 (WS.imp (WS.bind w2) fun k α3 ω3 H3 e3 s3 w3 => ?_)
    cases k with
    | true =>
      rw [if_pos rfl] at w3 ⊢
      refine ⟨fun σ' H' => ∃ α2 ω2 ρ2, Evo α ω H α2 ω2 H' ∧ StoOk B K H' α2 ω2 ∧ SlOk (ow B α2 ω2) K H' α2 σ' ρ2 ∧ WS K E B H' α2 ω2 (FlOkS B K D) (whlS fc b m ρ2 ω2), fun σ' H' q => ⟨m, Nat.lt_succ_self m, q⟩, ?_⟩
      refine hb B σ2 H3 α3 ω3 ρ2 _ s3 (sl2.evo e3) (WS.imp (WS.bind w3) fun fl α5 ω5 H5 e5 s5 w4 => ?_)
      have e5' := e2.trans (e3.trans e5)
      cases fl with
      | nx ρ5 => exact fun σ5 sl5 => ⟨α5, ω5, ρ5, e5', s5, sl5, w4⟩
      | ct ρ5 => exact fun σ5 sl5 => ⟨α5, ω5, ρ5, e5', s5, sl5, w4⟩
      | bk ρ5 => exact WS.now (E := E) s5 w4
      | rt x => exact WS.now (E := E) s5 w4
    | false =>
      rw [if_neg Bool.false_ne_true] at w3 ⊢
      exact WS.now (E := E) s3 w3 σ2 (sl2.evo e3)
end
end L10
namespace L10
open PySem L2 L3
section
variable {B O O' : Own} {K : PySem.W.Frag} {E : XK} {H H' H1 H2 : Hp} {α α' α1 α2 : List Addr} {ω ω' ω1 ω2 : Sto} {σ : L2.St} {ρ : SEnv} {v : V}
noncomputable def compvS (gt : FGS) (ft : FTS) (fe : FES) : List D → SEnv → Sto → List SV → RS (List SV)
  | [], _, ω, acc => .ok acc ω
  | d :: r, ρ, ω, acc => (gt (.fz d) ρ ω).bind fun ρ1 ω1 => (ft ρ1 ω1).bind fun b ω2 => if b = true then (fe ρ1 ω2).bind fun x ω3 => (if acc.length < 1000000 then compvS gt ft fe r ρ1 ω3 (acc ++ [x]) else .bad) else compvS gt ft fe r ρ1 ω2 acc
noncomputable def captS (n : Nat) (fj : List Nat) (ρ : SEnv) : SEnv := List.replicate n none ++ fj.map fun j => (ρ[j]?).join
noncomputable def compS (n : Nat) (fj : List Nat) (fi : FIS) (gt : FGS) (ft : FTS) (fe : FES) : FES := fun ρ ω => (fi ρ ω).bind fun ds ω1 => (noErS (compvS gt ft fe ds (captS n fj ρ) ω1 [])).bind fun xs ω2 => .ok (.rf ω2.length) (ω2 ++ [.lst xs])
theorem sl_capt {own : List Str} {fv : List (Str × Nat)} {n : Nat} {fj : List Nat} (hn : own.length = n) (hf : fv.map (·.2) = fj) (sl : SlOk O K H α σ ρ) : SlOk O K H α (compSt own fv σ) (captS n fj ρ) := by
  unfold compSt captS
  rw [own_map hn]
  have hl : fv.length = fj.length := by rw [← hf, List.length_map]
  refine ⟨by rw [List.length_append, List.length_append, List.length_replicate, List.length_replicate, List.length_map, List.length_map, hl], fun j x hx => ?_⟩
  by_cases hj : j < n
  · rw [List.getElem?_append_left (by rw [List.length_replicate]; exact hj), List.getElem?_replicate, if_pos hj] at hx
    cases hx
  · rw [List.getElem?_append_right (by rw [List.length_replicate]; omega), List.length_replicate, List.getElem?_map] at hx ⊢
    subst hf
    rw [List.getElem?_map] at hx
    cases q : fv[j - n]? with
    | none => rw [q] at hx; cases hx
    | some p =>
      rw [q] at hx
      have hx' : (ρ[p.2]?).join = some x := Option.some.inj hx
      have hx2 : ρ[p.2]? = some (some x) := by
        cases qq : ρ[p.2]? with
        | none => rw [qq] at hx'; cases hx'
        | some o => rw [qq] at hx'; exact congrArg some hx'
      obtain ⟨u, h1, h2⟩ := sl.2 p.2 x hx2
      exact ⟨u, by show some ((σ[p.2]?).join) = _; rw [h1]; rfl, h2⟩
theorem ow_adopt {p : Addr} {c : Cell} (hl : α.length = ω.length) (hc : c ≠ .dead) : ow (addO B p) α ω = ow B (α ++ [p]) (ω ++ [c]) := by
  funext b
  refine propext ⟨fun z => ?_, fun z => ?_⟩
  · rcases z with (z | z) | ⟨i, d, h1, h2, h3⟩
    · exact .inl z
    · exact .inr ⟨α.length, c, by rw [z]; exact snoc_last, by rw [hl]; exact snoc_last, hc⟩
    · exact .inr ⟨i, d, snoc_get h1, snoc_get h2, h3⟩
  · rcases z with z | z
    · exact .inl (.inl z)
    · rcases lv_new hl z with z | z
      · exact .inr z
      · exact .inl (.inr z)
theorem StoOk.adopt {p : Addr} {vs : List V} {xs : List SV} (s : StoOk (addO B p) K H α ω) (hp : H p = some (.lst vs)) (hv : VsOk (ow (addO B p) α ω) K H α vs xs) (hB : ¬ B p) : StoOk B K H (α ++ [p]) (ω ++ [.lst xs]) := by
  have eo : ow (addO B p) α ω = ow B (α ++ [p]) (ω ++ [.lst xs]) := ow_adopt s.len (by intro z; cases z)
  have pre : ∀ (i : Nat) (a : Addr), α[i]? = some a → (α ++ [p])[i]? = some a := fun i a h => snoc_get h
  have np : ∀ i : Nat, α[i]? ≠ some p := s.ba p (.inr rfl)
  refine ⟨by rw [List.length_append, List.length_append, s.len]; rfl, fun i j a h1 h2 => ?_, fun a h => s.bn a (.inl h), fun a h i q => ?_, fun i a h => ?_, fun i a d h1 h2 => ?_⟩
  · rcases get_snoc h1 with g1 | ⟨e1, e2⟩ <;> rcases get_snoc h2 with g2 | ⟨e3, e4⟩
    · exact s.nd i j a g1 g2
    · rw [e4] at g1; exact absurd g1 (np i)
    · rw [e2] at g2; exact absurd g2 (np j)
    · omega
  · rcases get_snoc q with q | ⟨_, e2⟩
    · exact s.ba a (.inl h) i q
    · subst e2; exact hB h
  · rcases get_snoc h with h | ⟨_, e2⟩
    · exact s.al i a h
    · rw [e2, hp]; simp
  · rw [← eo]
    rcases get_snoc h2 with g2 | ⟨e1, e2⟩
    · rcases get_snoc h1 with g1 | ⟨e1, _⟩
      · exact (s.cel i a d g1 g2).ev .refl pre fun o q => q
      · have := (List.getElem?_eq_some_iff.mp g2).1; have := s.len; omega
    · rcases get_snoc h1 with g1 | ⟨_, e3⟩
      · have := (List.getElem?_eq_some_iff.mp g1).1; have := s.len; omega
      · rw [e2, e3]
        exact ⟨vs, hp, Paired.mapP hv fun _ _ r => r.ev .refl pre⟩
theorem StoOk.hide {p : Addr} {o : HO} (s : StoOk B K H α ω) (hp : H p = none) : StoOk (addO B p) K (upd H p o) α ω := by
  have sm : Same H (upd H p o) := same_upd hp o
  have g := s.grow sm
  have ev : Ev (ow B α ω) H (ow (addO B p) α ω) (upd H p o) := fun b u h n => ⟨sm b u h, fun z => z.elim (fun z => z.elim (fun z => n (.inl z)) fun z => by rw [z, hp] at h; cases h) fun z => n (.inr z)⟩
  refine ⟨g.len, g.nd, fun a h => h.elim (g.bn a) fun e => by rw [e, upd_same]; simp, fun a h i q => h.elim (fun h => g.ba a h i q) fun e => by rw [e] at q; exact s.al i p q hp, g.al, fun i a c h1 h2 => ?_⟩
  exact (s.cel i a c h1 h2).ev ev (fun _ _ h => h) fun o q => sm _ _ q
theorem StoOk.hmut {p : Addr} {o o' : HO} (s : StoOk (addO B p) K H α ω) (hp : H p = some o) : StoOk (addO B p) K (upd H p o') α ω := by
  have ev : Ev (ow (addO B p) α ω) H (ow (addO B p) α ω) (upd H p o') := Ev.mut (.inl (.inr rfl)) o'
  have n : ∀ b, H b ≠ none → upd H p o' b ≠ none := fun b h => by
    by_cases z : b = p
    · subst z; rw [upd_same]; simp
    · rw [upd_ne z]; exact h
  refine ⟨s.len, s.nd, fun a h => n a (s.bn a h), s.ba, fun i a h => n a (s.al i a h), fun i a c h1 h2 => (s.cel i a c h1 h2).ev ev (fun _ _ h => h) fun u q => ?_⟩
  have : a ≠ p := fun z => s.ba p (.inr rfl) i (by rw [← z]; exact h1)
  rw [upd_ne this]; exact q
theorem Evo.dd {p : Addr} {o : HO} (e : Evo α1 ω1 H1 α ω H) (hp : H1 p = none) : Evo α1 ω1 H1 α ω (upd H p o) := ⟨e.pre, fun b u h n => by rw [upd_ne (ne_of_none h hp)]; exact e.kp b u h n, e.lv⟩
theorem eos_comp {own : List Str} {fv : List (Str × Nat)} {wi : TI} {g : TG} {tc : TT} {te : TE} {fi : FIS} {gt : FGS} {ft : FTS} {fe : FES} {n : Nat} {fj : List Nat} (hn : own.length = n) (hf : fv.map (·.2) = fj)
    (hi : IOT K E wi fi) (hg : GOS K E0 g gt) (ht : TTS K E0 tc ft) (he : EOS K E0 te fe) : EOS K E (tComp own fv wi g tc te) (compS n fj fi gt ft fe) := by
  intro B σ H α ω ρ Q s sl w
  refine hi B σ H α ω ρ _ s sl (WS.imp (WS.bind w) fun ds α1 ω1 H1 e1 s1 w1 J it => ?_)
  intro Dd hD
  have slc : SlOk (ow B α1 ω1) K H1 α1 (compSt own fv σ) (captS n fj ρ) := sl_capt hn hf (sl.evo e1)
  cases qr : compvS gt ft fe ds (captS n fj ρ) ω1 [] with
  | er x ωf => rw [qr] at w1; exact w1.elim
  | bad => rw [qr] at w1; exact w1.elim
  | ok xs ωf =>
    rw [qr] at w1
    have w1 : WS K E B H1 α1 ω1 (PQ B K Q) (.ok (.rf ωf.length) (ωf ++ [.lst xs])) := w1
    have hB : ¬ B Dd := fun z => s1.bn Dd z hD
    have evH : ∀ {α2 : List Addr} {ω2 : Sto} {H' : Hp}, Evo α1 ω1 H1 α2 ω2 H' → Ev (ow B α1 ω1) H1 (ow (addO B Dd) α2 ω2) H' := fun e b o h n => ⟨e.kp b o h fun z => n (.inr z), fun z => by
      rcases z with (z | z) | z
      · exact n (.inl z)
      · rw [z, hD] at h; cases h
      · exact (e.lv b z).elim (fun q => n (.inr q)) fun q => by rw [h] at q; cases q⟩
    refine ⟨fun i m σ' H' => m = ds.length - i ∧ i ≤ ds.length ∧ ∃ α2 ω2 ρc acc ys, Evo α1 ω1 H1 α2 ω2 H' ∧ StoOk (addO B Dd) K H' α2 ω2 ∧ SlOk (ow (addO B Dd) α2 ω2) K H' α2 σ' ρc ∧ H' Dd = some (.lst ys) ∧ VsOk (ow (addO B Dd) α2 ω2) K H' α2 ys acc ∧ compvS gt ft fe (ds.drop i) ρc ω2 acc = .ok xs ωf,
      ⟨_, rfl, Nat.zero_le _, α1, ω1, captS n fj ρ, [], [], Evo.same (same_upd hD _), s1.hide hD, ?_, upd_same, .nil, qr⟩, ?_⟩
    · exact ⟨slc.1, fun j x hx => let ⟨v, h1, h2⟩ := slc.2 j x hx; ⟨v, h1, h2.ev (evH (Evo.same (same_upd hD _))) fun _ _ h => h⟩⟩
    · rintro i m σ2 H2 ⟨rfl, hi, α2, ω2, ρ2, acc, ys, e2, s2, sl2, hy, vy, qP⟩
      obtain ⟨go, stop⟩ := it (ow (addO B Dd) α2 ω2) H2 (evH e2) s2.noO
      by_cases hlt : i < ds.length
      · obtain ⟨g1, g2⟩ := go i hlt
        refine .inr ⟨g1, fun σ5 H5 => i + 1 ≤ ds.length ∧ ∃ α2 ω2 ρc acc ys, Evo α1 ω1 H1 α2 ω2 H5 ∧ StoOk (addO B Dd) K H5 α2 ω2 ∧ SlOk (ow (addO B Dd) α2 ω2) K H5 α2 σ5 ρc ∧ H5 Dd = some (.lst ys) ∧ VsOk (ow (addO B Dd) α2 ω2) K H5 α2 ys acc ∧ compvS gt ft fe (ds.drop (i + 1)) ρc ω2 acc = .ok xs ωf,
          fun σ5 H5 ⟨h1, h2⟩ => ⟨ds.length - (i + 1), by omega, rfl, h1, h2⟩, fun x H3 y => ?_⟩
        obtain ⟨s3, d, hd, dv⟩ := g2 x H3 y
        have ed : ds.drop i = d :: ds.drop (i + 1) := by
          obtain ⟨_, q⟩ := List.getElem?_eq_some_iff.mp hd
          rw [List.drop_eq_getElem_cons hlt, q]
        rw [ed] at qP
        unfold compvS at qP
        have e3 : Evo α2 ω2 H2 α2 ω2 H3 := Evo.same s3
        have kD : ∀ {αx αy : List Addr} {ωx ωy : Sto} {Hx Hy : Hp} {o : HO}, StoOk (addO B Dd) K Hx αx ωx → Evo αx ωx Hx αy ωy Hy → Hx Dd = some o → Hy Dd = some o := fun sx ex h => ex.kp _ _ h fun ⟨i, c, q, _⟩ => sx.ba Dd (.inr rfl) i q
        refine hg (addO B Dd) σ2 H3 α2 ω2 ρ2 x (.fz d) _ (s2.grow s3) (sl2.evo e3) dv ?_
        cases qg : gt (.fz d) ρ2 ω2 with
        | er z ωz => rw [qg] at qP; cases qP
        | bad => rw [qg] at qP; cases qP
        | ok ρ4 ω4 =>
          rw [qg] at qP
          intro α4 H4 e4 s4 σ4 sl4
          refine ht (addO B Dd) σ4 H4 α4 ω4 ρ4 _ s4 sl4 ?_
          have qP : ((ft ρ4 ω4).bind fun b ω2 => if b = true then (fe ρ4 ω2).bind fun x ω3 => (if acc.length < 1000000 then compvS gt ft fe (ds.drop (i + 1)) ρ4 ω3 (acc ++ [x]) else .bad) else compvS gt ft fe (ds.drop (i + 1)) ρ4 ω2 acc) = .ok xs ωf := qP
          cases qt : ft ρ4 ω4 with
          | er z ωz => rw [qt] at qP; cases qP
          | bad => rw [qt] at qP; cases qP
          | ok b ω5 =>
            rw [qt] at qP
            intro α5 H5 e5 s5
            have sl5 := sl4.evo e5
            have e35 := e3.trans (e4.trans e5)
            cases b with
            | false =>
              have qP : compvS gt ft fe (ds.drop (i + 1)) ρ4 ω5 acc = .ok xs ωf := qP
              exact ⟨hlt, α5, ω5, ρ4, acc, ys, e2.trans e35, s5, sl5, kD s2 e35 hy, VsOk.evo e35 vy, qP⟩
            | true =>
              have qP : ((fe ρ4 ω5).bind fun x ω3 => (if acc.length < 1000000 then compvS gt ft fe (ds.drop (i + 1)) ρ4 ω3 (acc ++ [x]) else .bad)) = .ok xs ωf := qP
              rw [if_pos rfl]
              refine he (addO B Dd) σ4 H5 α5 ω5 ρ4 _ s5 sl5 ?_
              cases qe : fe ρ4 ω5 with
              | er z ωz => rw [qe] at qP; cases qP
              | bad => rw [qe] at qP; cases qP
              | ok x6 ω6 =>
                rw [qe] at qP
                intro α6 H6 e6 s6 v6 hv6
                have qP : (if acc.length < 1000000 then compvS gt ft fe (ds.drop (i + 1)) ρ4 ω6 (acc ++ [x6]) else .bad) = .ok xs ωf := qP
                by_cases hl6 : acc.length < 1000000
                · rw [if_pos hl6] at qP
                  have e36 := e35.trans e6
                  have hy6 : H6 Dd = some (.lst ys) := kD s2 e36 hy
                  have vy6 := VsOk.evo e36 vy
                  have em : Ev (ow (addO B Dd) α6 ω6) H6 (ow (addO B Dd) α6 ω6) (upd H6 Dd (.lst (ys ++ [v6]))) := Ev.mut (.inl (.inr rfl)) _
                  have sl6 := sl5.evo e6
                  refine ⟨ys, hy6, lt1e6 (by rw [vy6.length]; exact hl6), hlt, α6, ω6, ρ4, acc ++ [x6], ys ++ [v6], (e2.trans e36).dd hD, s6.hmut hy6, ⟨sl6.1, fun j x hx => let ⟨v, h1, h2⟩ := sl6.2 j x hx; ⟨v, h1, h2.ev em fun _ _ h => h⟩⟩, upd_same, pr_snoc (Paired.mapP vy6 fun _ _ r => r.ev em fun _ _ h => h) (hv6.ev em fun _ _ h => h), qP⟩
                · rw [if_neg hl6] at qP; cases qP
      · have e : i = ds.length := by omega
        subst e
        rw [List.drop_eq_nil_of_le (Nat.le_refl _)] at qP
        have qP : RS.ok acc ω2 = .ok xs ωf := qP
        cases qP
        refine .inl ⟨stop, ?_⟩
        refine w1 (α2 ++ [Dd]) H2 ⟨fun i a h => snoc_get (e2.pre i a h), e2.kp, fun b z => (lv_new s2.len z).elim (e2.lv b) fun z => .inr (by rw [z]; exact hD)⟩ (s2.adopt hy vy hB) (.ref Dd) ⟨Dd, by rw [← s2.len]; exact snoc_last, rfl⟩
noncomputable def runS (N : Nat) (g : FSS) : FNS := fun xs ω => (g (xs.map some ++ List.replicate (N - xs.length) none) ω).bind fun fl ω1 => match fl with
  | .rt x => .ok x ω1
  | .nx _ => .ok (.fz .none) ω1
  | _ => .bad
theorem sl_start {N : List Str} {vs : List V} {xs : List SV} (h : VsOk O K H α vs xs) : SlOk O K H α (L2.start N vs) (xs.map some ++ List.replicate (N.length - xs.length) none) := by
  have hl : vs.length = xs.length := Paired.length h
  unfold L2.start
  refine ⟨by rw [List.length_append, List.length_append, List.length_map, List.length_map, List.length_replicate, List.length_replicate, hl], fun i x hx => ?_⟩
  by_cases hi : i < xs.length
  · rw [List.getElem?_append_left (by rw [List.length_map]; exact hi), List.getElem?_map] at hx
    cases q : xs[i]? with
    | none => rw [q] at hx; cases hx
    | some d =>
      rw [q] at hx
      cases hx
      obtain ⟨v, hv, h2⟩ := pr_get h q
      refine ⟨v, ?_, h2⟩
      rw [List.getElem?_append_left (by rw [List.length_map, hl]; exact hi), List.getElem?_map, hv]
      rfl
  · rw [List.getElem?_append_right (by rw [List.length_map]; omega), List.getElem?_replicate] at hx
    split at hx <;> cases hx
theorem run_ok {N : List Str} {vs : List V} {xs : List SV} {g : FSS} {t : TS} {Q : VK} {n : Nat} (hs : SOS K E t g) (h : spS K n (runS N.length g) vs H Q E) : t { nx := fun _ H' => Q .non H', rt := Q } (L2.start N vs) H := by
  obtain ⟨hl, B, α, ω, xs, s, hv, w⟩ := h
  refine hs B _ H α ω _ _ s (sl_start hv) (WS.imp (WS.bind w) fun fl α1 ω1 H1 e1 s1 w1 => ?_)
  cases fl with
  | rt x => exact WS.now (E := E) s1 w1
  | nx ρ => exact fun σ sl => WS.now (E := E) s1 w1 .non .non
  | bk ρ => exact w1.elim
  | ct ρ => exact w1.elim
end
theorem okS {P : Program} {w : World} {K : PySem.W.Frag} {mg : Str → Option Value} {base : Heap} {x qual : Str} {st : Stmt} {f : Addr} {fd : FuncData} {N ps : List Str} {k n m : Nat} {g : FSS} {FF : FNS} (F : Fun K x qual st f fd) (S : FnScope N ps (defScope st)) (hn : ps.length = n) (hm : N.length = m) (hF : FF = runS m g)
    (hbody : ∀ (cdv : Value) (A : Around) (outer : List Env) (s : Shared) (H : Hp) (E : XK), Room k (A.deeper (PyProof.Rows.envOfC qual (defScope st) s.heap.objs.size f cdv)) →
      ∃ t, PSs (cxOf CX0 P w K mg base N qual (defScope st) f cdv A outer s H E).nox (defBody st) t ∧ SOS K E t g) : FnOk P w K mg base CX0 (k + 1) f fd ps (spS K n FF) := by
  subst hF hm
  refine F.ok S (fun vs H Q E h => h.1.trans hn.symm) (fun cdv A outer s H vs Q E hr h => ?_)
  obtain ⟨t, ht, hs⟩ := hbody cdv A outer s H E hr
  exact ⟨t, ht, run_ok (xs := []) hs h⟩
noncomputable abbrev CalS (P : Program) (w : World) (K : PySem.W.Frag) (mg : Str → Option Value) (base : Heap) (k : Nat) (x : Str) (ps : List Str) (n : Nat) (F : FNS) : Prop := CalOk P w K mg base k x ps (spS K n F)
end L10
namespace PySem.W
open PySem PySem.Calls PyProof.Rows PyProof.V PySem.Spec
section
variable {prog : Program} {w : World} {A : Around} {E : Value → Shared → Prop} {s : Shared} {T : String} {r d : Addr} {n : Nat} {P : Nat → Value → Prop} {OK : Heap → Prop}
end
end PySem.W
namespace PyProof.Rows
open PySem
section
variable {prog : Program} {w : World} {A : Around} {E : Value → Shared → Prop} {s : Shared} {T : String} {r d : Addr} {n : Nat} {P : Nat → Value → Prop} {OK : Heap → Prop}
end
end PyProof.Rows
namespace L10
open PySem PySem.Spec PyProof.Rows L2 L3
noncomputable def VwO (p d : Addr) : HO := .ext fun h => h.IsValuesView p d
theorem vw_ok {P : Program} {w : World} {H : Hp} {h : Heap} {p d : Addr} (x : h.IsValuesView p d) : ObjOk P w H h p (VwO p d) := ⟨x, let ⟨o, ho, _⟩ := x; ⟨o, ho⟩, fun h1 h2 ⟨o, ho, hc⟩ k => ⟨o, k o ho, hc⟩⟩
end L10
namespace PySem
open Sem (wp)
namespace F
theorem sub_ae : isSubtype (.type "AttributeError") (.type "AttributeError") = pure true := by rw [isSubtype_type]; kernel_rfl
end F
section
variable {prog : Program} {w : World} {A : Around} {E : Value → Shared → Prop} {h : Heap} {g : Array GenState} {d : Drawn} {t : Nat} {os : OsState} {a : Addr} {o : Obj}
theorem raise_attr {α : Type} {name msg : Str} {Q : α → Shared → Prop} {E : Value → Shared → Prop} (hm : msg.length ≤ sizeLine) (hh : A.handled = none) (hq : ∀ e h' t', (∀ b o, h.get? b = some o → h'.get? b = some o) → (⟨h', g, d, t', os⟩ : Shared).TypeIs e "AttributeError" → E e ⟨h', g, d, t', os⟩) :
    wpAny (model prog w) A (raiseAttrError (.ref a) name msg : Sem α) Q E ⟨h, g, d, t, os⟩ := by
  have hm' : ¬ msg.length > sizeLine := Nat.not_lt.mpr hm
  unfold raiseAttrError newExc newTuple
  repeat (any_goals (first | assumption | wp_step))
  refine wpAny_of_eq (a := true) F.sub_ae ?_
  repeat (any_goals (first | assumption | wp_step))
  refine wpAny_raiseNew_none hh (hq _ _ _ (fun b o e => ?_) ?_)
  · exact (Heap.get?_update_other _ _ (Ne.symm (Nat.ne_of_lt (Heap.lt_size (Heap.get?_push_of_some _ e))))).trans (Heap.get?_push_of_some _ (Heap.get?_push_of_some _ e))
  · exact ⟨_, Heap.get?_update_self _ (Heap.get?_push_size _ rfl) rfl, rfl⟩
namespace F
theorem entry_upd_loop : entryFor table "dict.update.loop" = some Builtin.«dict.update.loop» := entryFor_of_tree (by kernel_rfl)
theorem plain_upd_loop : plainId "dict.update.loop" = true := by decide +kernel
end F
end
end PySem
namespace PySem
open Sem (wp)
section
variable {prog : Program} {w : World} {A : Around} {E : Value → Shared → Prop} {s : Shared} {K : Type} [DecidableEq K] {knd : KeyKind prog w K} {I dd ax : Addr} {items : Array Value} {ks : List (K × Value)} {R : Result → Shared → Prop}
theorem stored_len (kvs : List (K × Value)) (k : K) (v : Value) : (stored kvs k v).length ≤ kvs.length + 1 := by
  unfold stored
  split
  · rw [List.length_map]; omega
  · rw [List.length_append]; exact Nat.le_refl _
theorem merged_lenA : ∀ (more kvs : List (K × Value)), (merged kvs more).length ≤ kvs.length + more.length
  | [], kvs => Nat.le_refl _
  | p :: r, kvs => by
    have h1 := merged_lenA r (stored kvs p.1 p.2)
    have h2 := stored_len kvs p.1 p.2
    show (merged (stored kvs p.1 p.2) r).length ≤ _
    rw [List.length_cons]
    omega
theorem merged_len (more : List (K × Value)) : (merged [] more).length ≤ more.length := by have := merged_lenA more []; simpa using this
end
end PySem
namespace PySem
open Sem (wp)
open PyProof.Rows
section
variable {prog : Program} {w : World} {A : Around} {E : Value → Shared → Prop} {s : Shared} {K : Type} [DecidableEq K] {knd : KeyKind prog w K} {ax : Addr} {items : Array Value} {ks : List (K × Value)} {R : Result → Shared → Prop}
end
end PySem
namespace L10
open PySem PySem.Spec PyProof.Rows L2 L3
inductive PrsOk (K : PySem.W.Frag) (H : Hp) : List V → List (Key × V) → Prop
  | nil : PrsOk K H [] []
  | cons {q : Addr} {k : Key} {v : V} {vs : List V} {kvs : List (Key × V)} : SqT K H q [kV k, v] → PrsOk K H vs kvs → PrsOk K H (.ref q :: vs) ((k, v) :: kvs)
theorem prs_ok {X : Cx} {pins : List (Addr × Obj)} {σ : L2.St} {H : Hp} {s : Shared} (I : Inv X pins σ H s) : ∀ {ys : List V} {kvs : List (Key × V)} {us : List Value}, PrsOk X.K H ys kvs → Vals ys us → ∃ ks : List (Key × Value), KV kvs ks ∧ ks.length = us.length ∧ ∀ (i : Nat) (v : Value), us[i]? = some v → ∃ q key k x, v = .ref q ∧ ks[i]? = some (k, x) ∧ (mixKind X.prog X.w).is k key = true ∧ s.heap.IsTuple q #[key, x]
  | _, _, _, .nil, .nil => ⟨[], .nil, rfl, fun i v e => by simp at e⟩
  | _, _, _, .cons (q := q) (k := k) (v := v) h t, .cons r rs => by
    obtain ⟨ks, h1, h2, h3⟩ := prs_ok I t rs
    obtain ⟨its, rv, pl, _⟩ := I.tuple h
    cases r
    obtain ⟨uk, ux, rfl, rk, rx⟩ : ∃ uk ux, its = [uk, ux] ∧ RelV (kV k) uk ∧ RelV v ux := by
      cases rv with
      | cons a b => cases b with
        | cons b c => cases c; exact ⟨_, _, rfl, a, b⟩
    refine ⟨(k, ux) :: ks, .cons ⟨rfl, rx⟩ h1, by rw [List.length_cons, List.length_cons, h2], fun i u e => ?_⟩
    cases i with
    | zero =>
      cases e
      exact ⟨q, uk, k, ux, rfl, rfl, kV_is rk, pl⟩
    | succ i => exact h3 i u (by simpa using e)
end L10
namespace L10
open PySem PyProof.Rows L2 L3
theorem b_dict : bootBuiltins "dict" = some (.type "dict") := by decide +kernel
section
variable {B O O' : Own} {K : PySem.W.Frag} {E : XK} {H H' H1 H2 : Hp} {α α' α1 α2 : List Addr} {ω ω' ω1 ω2 : Sto} {σ : L2.St} {ρ : SEnv} {v : V}
noncomputable def keyV : SV → Option Key
  | .fz (.int i) => some (.inl i)
  | .fz (.str x) => some (.inr x)
  | _ => none
theorem keyV_ok {x : SV} {k : Key} (e : keyV x = some k) (h : VOk O K H α v x) : v = kV k := by
  unfold keyV at e
  split at e
  · cases e; cases h; rfl
  · cases e; cases h; rfl
  · cases e
noncomputable abbrev PrK (O : Own) (K : PySem.W.Frag) (H : Hp) (α : List Addr) : List (Key × V) → List (Key × SV) → Prop := Paired (fun (p : Key × V) (q : Key × SV) => p.1 = q.1 ∧ VOk O K H α p.2 q.2)
noncomputable def dctAt (ω : Sto) : SV → Option (Nat × List (Key × SV))
  | .rf i => match ω[i]? with
    | some (.dct kvs) => some (i, kvs)
    | _ => none
  | _ => none
theorem dct_at {x : SV} {i : Nat} {kvs : List (Key × SV)} (s : StoOk B K H α ω) (hv : VOk (ow B α ω) K H α v x) (h : dctAt ω x = some (i, kvs)) : ω[i]? = some (.dct kvs) ∧ ∃ a ws, α[i]? = some a ∧ v = .ref a ∧ H a = some (.dK ws) ∧ PrK (ow B α ω) K H α ws kvs := by
  cases x with
  | fz d => cases h
  | tp l => cases h
  | rf j =>
    obtain ⟨a, ha, rfl⟩ := hv
    unfold dctAt at h
    dsimp only at h
    cases q : ω[j]? with
    | none => rw [q] at h; cases h
    | some c =>
      rw [q] at h
      cases c with
      | dct ys =>
        have e := Option.some.inj h
        cases e
        obtain ⟨ws, h1, h2⟩ := s.cel i a _ ha q
        exact ⟨q, a, ws, ha, rfl, h1, h2⟩
      | _ => cases h
noncomputable def getK (kvs : List (Key × SV)) (k : Key) : Option SV := (kvs.find? fun kv => decide (kv.1 = k)).map (·.2)
noncomputable def putKS (kvs : List (Key × SV)) (k : Key) (x : SV) : List (Key × SV) :=
  if (kvs.any fun kv => decide (kv.1 = k)) = true then kvs.map (fun kv => if kv.1 = k then (kv.1, x) else kv) else kvs ++ [(k, x)]
theorem getK_ok {k : Key} : ∀ {ws : List (Key × V)} {kvs : List (Key × SV)}, PrK O K H α ws kvs → (∀ x, getK kvs k = some x → ∃ v, valV ws k = some v ∧ VOk O K H α v x) ∧ (getK kvs k = none → valV ws k = none)
  | _, _, .nil => ⟨fun x e => (by cases e), fun _ => rfl⟩
  | (a, u) :: ws, (b, y) :: kvs, .cons ⟨h1, h2⟩ t => by
    cases h1
    unfold getK valV
    rw [List.find?_cons, List.find?_cons]
    by_cases e : a = k
    · simp only [decide_eq_true e]
      exact ⟨fun x h => ⟨u, rfl, by cases h; exact h2⟩, fun h => by cases h⟩
    · simp only [decide_eq_false e]
      exact getK_ok t
theorem anyK {k : Key} : ∀ {ws : List (Key × V)} {kvs : List (Key × SV)}, PrK O K H α ws kvs → (ws.any fun kv => decide (kv.1 = k)) = kvs.any fun kv => decide (kv.1 = k)
  | _, _, .nil => rfl
  | (a, u) :: ws, (b, y) :: kvs, .cons ⟨h1, h2⟩ t => by
    cases h1
    rw [List.any_cons, List.any_cons, anyK t]
theorem repK {k : Key} {x : SV} (hv : VOk O K H α v x) : ∀ {ws : List (Key × V)} {kvs : List (Key × SV)}, PrK O K H α ws kvs → PrK O K H α (ws.map (fun kv => if kv.1 = k then (kv.1, v) else kv)) (kvs.map (fun kv => if kv.1 = k then (kv.1, x) else kv))
  | _, _, .nil => .nil
  | (a, u) :: ws, (b, y) :: kvs, .cons ⟨h1, h2⟩ t => by
    cases h1
    rw [List.map_cons, List.map_cons]
    by_cases e : a = k
    · rw [if_pos e, if_pos e]; exact .cons ⟨rfl, hv⟩ (repK hv t)
    · rw [if_neg e, if_neg e]; exact .cons ⟨rfl, h2⟩ (repK hv t)
theorem prk_snoc {p : Key × V} {q : Key × SV} {ws : List (Key × V)} {kvs : List (Key × SV)} (h : PrK O K H α ws kvs) (r : p.1 = q.1 ∧ VOk O K H α p.2 q.2) : PrK O K H α (ws ++ [p]) (kvs ++ [q]) := by
  induction h with
  | nil => exact .cons r .nil
  | cons a _ ih => exact .cons a ih
theorem putK_ok {k : Key} {x : SV} (hv : VOk O K H α v x) {ws : List (Key × V)} {kvs : List (Key × SV)} (h : PrK O K H α ws kvs) : PrK O K H α (putK ws k v) (putKS kvs k x) := by
  unfold putK putKS
  rw [anyK h]
  split
  · exact repK hv h
  · exact prk_snoc h ⟨rfl, hv⟩
theorem new_cell {Q : VK} {c : Cell} {o : HO} {p : Addr} (s : StoOk B K H α ω) (hp : H p = none) (w : WS K E B H α ω (PQ B K Q) (.ok (.rf ω.length) (ω ++ [c]))) (hc : ∀ e : Evo α ω H (α ++ [p]) (ω ++ [c]) (upd H p o), COk (ow B (α ++ [p]) (ω ++ [c])) K (upd H p o) (α ++ [p]) p c) : Q (.ref p) (upd H p o) := by
  have sm : Same H (upd H p o) := same_upd hp _
  have e : Evo α ω H (α ++ [p]) (ω ++ [c]) (upd H p o) := Evo.newS s.len sm hp
  exact w _ _ e (s.newS sm hp (by rw [upd_same]; simp) (hc e)) _ ⟨p, by rw [← s.len]; exact snoc_last, rfl⟩
noncomputable def pairD : D → Option (Key × SV)
  | .tuple [.int i, d] => some (.inl i, .fz d)
  | .tuple [.str x, d] => some (.inr x, .fz d)
  | _ => none
noncomputable def mergKS (kvs more : List (Key × SV)) : List (Key × SV) := more.foldl (fun acc kv => putKS acc kv.1 kv.2) kvs
theorem pairs_ok : ∀ {vs : List V} {ds : List D} {ps : List (Key × SV)}, L3.DVs O K H vs ds → optAll pairD ds = some ps → ∃ kvs, PrsOk K H vs kvs ∧ PrK O K H α kvs ps
  | _, _, _, .nil, e => by cases e; exact ⟨[], .nil, .nil⟩
  | _, _, _, .cons (d := d) (ds := ds) h t, e => by
    unfold optAll at e
    cases q : pairD d with
    | none => rw [q] at e; cases e
    | some p =>
      rw [q] at e
      dsimp only at e
      cases q2 : optAll pairD ds with
      | none => rw [q2] at e; cases e
      | some ps =>
        rw [q2] at e
        cases e
        obtain ⟨kvs, k1, k2⟩ := pairs_ok t q2
        unfold pairD at q
        split at q
        · cases q
          cases h with
          | tup h hs => cases hs with
            | cons a b => cases b with
              | cons b c =>
                cases c; cases a
                exact ⟨(.inl _, _) :: kvs, .cons h.1 k1, .cons ⟨rfl, b⟩ k2⟩
        · cases q
          cases h with
          | tup h hs => cases hs with
            | cons a b => cases b with
              | cons b c =>
                cases c; cases a
                exact ⟨(.inr _, _) :: kvs, .cons h.1 k1, .cons ⟨rfl, b⟩ k2⟩
        · cases q
theorem merg_ok : ∀ {more : List (Key × V)} {ms : List (Key × SV)} {ws : List (Key × V)} {kvs : List (Key × SV)}, PrK O K H α more ms → PrK O K H α ws kvs → PrK O K H α (mergeK ws more) (mergKS kvs ms)
  | _, _, _, _, .nil, h => h
  | (a, u) :: more, (b, y) :: ms, _, _, .cons r t, h => by
    obtain ⟨r1, r2⟩ := r
    cases r1
    show PrK O K H α (mergeK (putK _ a u) more) (mergKS (putKS _ a y) ms)
    exact merg_ok (more := more) (ms := ms) t (putK_ok r2 h)
end
end L10
namespace PySem
open PyProof.Rows
namespace F
end F
section
variable {prog : Program} {w : World} {A : Around} {E : Value → Shared → Prop} {R : Result → Shared → Prop} {I l S : Addr} {vs : List Value} {d : Value}
end
end PySem
namespace L10
open PySem PySem.Spec PyProof.Rows L2 L3
end L10
namespace L10
open PySem L2 L3
section
variable {B O O' : Own} {K : PySem.W.Frag} {E : XK} {H H' H1 H2 : Hp} {α α' α1 α2 : List Addr} {ω ω' ω1 ω2 : Sto} {σ : L2.St} {ρ : SEnv} {v : V}
theorem sh_list {i : Nat} {ds : List D} (h : sh ω (.rf i) = some (.list ds)) : ∃ xs, ω[i]? = some (.lst xs) ∧ optAll fzs xs = some ds := by
  unfold sh at h
  dsimp only at h
  cases q : ω[i]? with
  | none => rw [q] at h; cases h
  | some c =>
    rw [q] at h
    cases c with
    | lst xs =>
      dsimp only at h
      cases q2 : optAll fzs xs with
      | none => rw [q2] at h; cases h
      | some es => rw [q2] at h; cases h; exact ⟨xs, rfl, q2⟩
    | _ => cases h
theorem list_of_sh (s : StoOk B K H α ω) {i : Nat} {ds : List D} (h : sh ω (.rf i) = some (.list ds)) : ∃ a vs, α[i]? = some a ∧ H a = some (.lst vs) ∧ L3.DVs (ow B α ω) K H vs ds ∧ ow B α ω a := by
  obtain ⟨xs, q1, q2⟩ := sh_list h
  obtain ⟨a, ha⟩ := s.at q1
  obtain ⟨vs, h1, h2⟩ := s.cel i a _ ha q1
  exact ⟨a, vs, ha, h1, dvs_of (optAll_ok (R := VOk (ow B α ω) K H α) (S := L3.DV (ow B α ω) K H) (fun v x y r e => fzs_ok r e) h2 q2), .inr ⟨i, _, ha, q1, by intro z; cases z⟩⟩
theorem stoNil {B : Own} (h : ∀ a, B a → H a ≠ none) : StoOk B K H [] [] := ⟨rfl, fun i j a h => by simp at h, h, fun a h i => by simp, fun i a h => by simp at h, fun i a c h => by simp at h⟩
noncomputable def toP (F : FNS) : FN := fun ds => match F (ds.map .fz) [] with
  | .ok (.fz d) _ => .ok (.fz d)
  | .ok (.rf i) ω => (match sh ω (.rf i) with
    | some (.list ds) => .ok (.ow ds)
    | _ => .bad)
  | .ok (.tp _) _ => .bad
  | .er x _ => .er x
  | .bad => .bad
theorem sp_toP {F : FNS} {n : Nat} {vs : List V} {Q : VK} (h : spP K n (toP F) vs H Q E) : spS K n F vs H Q E := by
  obtain ⟨hl, B, ds, hb, dv, w⟩ := h
  refine ⟨hl, B, [], [], ds.map .fz, stoNil hb, dvs_vs _ _ (dv.ev (Ev.sub fun b z => z.elim id fun ⟨i, c, q, _⟩ => by simp at q)), ?_⟩
  unfold toP at w
  cases qF : F (ds.map .fz) [] with
  | bad => rw [qF] at w; exact w.elim
  | er x ω' =>
    rw [qF] at w
    intro c dx α' H' e' s' k
    exact w c dx H' (fun b o h => e'.kp b o h fun ⟨i, c, q, _⟩ => by simp at q) (XOk.sub (fun b z => .inl z) k)
  | ok x ω' =>
    rw [qF] at w
    intro α' H' e' s' v hv
    have sm : Same H H' := fun b o h => e'.kp b o h fun ⟨i, c, q, _⟩ => by simp at q
    cases x with
    | fz d => exact w v H' sm (DV.ev (Ev.sub fun b z => .inl z) hv)
    | tp l => exact w.elim
    | rf i =>
      dsimp only at w
      cases qs : sh ω' (.rf i) with
      | none => rw [qs] at w; exact w.elim
      | some d =>
        rw [qs] at w
        cases d with
        | list es =>
          obtain ⟨a, us, ha, h1, hd, ho⟩ := list_of_sh s' qs
          obtain ⟨xs, q1, _⟩ := sh_list qs
          obtain ⟨a', ha', rfl⟩ := hv
          rw [ha] at ha'
          cases ha'
          refine w a us H' sm ((e'.lv a ⟨i, _, ha, q1, by intro z; cases z⟩).elim (fun ⟨i, c, q, _⟩ => by simp at q) id) h1 (hd.ev (Ev.sub fun b z => z.elim (fun z => .inl z) fun z => by rw [z]; exact ho))
        | _ => exact w.elim
end
end L10
namespace L10
open PySem L2 L3
section
variable {X : Cx} {CX : CXT} {E : XK} {k j : Nat} {C m : Str} {ps : List Str} {sp : Sp} {o e : Expr} {es : List Expr} {ta : TE} {t : TA} {apos pos p : Pos}
end
section
variable {K : PySem.W.Frag} {E : XK} {C m : Str} {F : FNS} {n : Nat} {to : TE} {ta : TA} {fo : FES} {fa : FAS} {L : List Str}
end
end L10
namespace L10
open PySem L2 L3
section
variable {ρ ρ1 ρ2 : SEnv} {ω ω1 ω2 ω3 ω4 : Sto} {x y z : SV} {i n : Nat} {d dx dy : D} {ds : List D} {b : Bool}
theorem sv_var (h : ρ[i]? = some (some x)) : varS i ρ ω = .ok x ω := by unfold varS; rw [h]
theorem sv_lift {f : FE} {ρ' : PEnv} (h : f (pureE ρ) = .ok (.fz d, ρ')) : liftP f ρ ω = .ok (.fz d) ω := by unfold liftP; rw [h]
theorem sv_liftO {f : FE} {ρ' : PEnv} (h : f (pureE ρ) = .ok (.ow ds, ρ')) : liftP f ρ ω = .ok (.rf ω.length) (ω ++ [.lst (ds.map .fz)]) := by unfold liftP; rw [h]; rfl
theorem sv_liftT {f : FT} {ρ' : PEnv} (h : f (pureE ρ) = .ok (b, ρ')) : liftT f ρ ω = .ok b ω := by unfold liftT; rw [h]
theorem sv_liftI {f : FI} {ρ' : PEnv} (h : f (pureE ρ) = .ok (ds, ρ')) : liftI f ρ ω = .ok ds ω := by unfold liftI; rw [h]
theorem bin_fz {f : D → D → Option RV} (h : f dx dy = some (.fz d)) : binS f (.fz dx) (.fz dy) ω = .ok (.fz d) ω := by
  unfold binS
  show ((RS.ofO ω (f dx dy)).bind fun rv ω1 => pushR ω1 rv) = _
  rw [h]; rfl
theorem all_fzs : ∀ ds : List D, optAll fzs (ds.map .fz) = some ds
  | [] => rfl
  | d :: r => by
    rw [List.map_cons]
    unfold optAll
    rw [all_fzs r]; rfl
theorem sh_lst (h : ω[i]? = some (.lst (ds.map .fz))) : sh ω (.rf i) = some (.list ds) := by
  unfold sh
  dsimp only
  rw [h]
  dsimp only
  rw [all_fzs]; rfl
theorem sv_bool {fa : FES} (h : fa ρ ω = .ok (.fz (.bool b)) ω1) : boolS fa ρ ω = .ok b ω1 := by unfold boolS; rw [h]; rfl
theorem sv_andT_t {fa fb : FTS} {r : RS Bool} (h : fa ρ ω = .ok true ω1) (k : fb ρ ω1 = r) : andT fa fb ρ ω = r := by unfold andT; rw [h, RS.bind_ok, if_pos rfl, k]
theorem sv_andT_f {fa fb : FTS} (h : fa ρ ω = .ok false ω1) : andT fa fb ρ ω = .ok false ω1 := by unfold andT; rw [h, RS.bind_ok, if_neg Bool.false_ne_true]
theorem sv_nil : nilS ρ ω = .ok [] ω := rfl
theorem sv_cons {fa : FES} {fr : FAS} {xs : List SV} (ha : fa ρ ω = .ok x ω1) (hr : fr ρ ω1 = .ok xs ω2) : consS fa fr ρ ω = .ok (x :: xs) ω2 := by unfold consS; rw [ha, RS.bind_ok, hr, RS.bind_ok]
theorem sv_tp {fa : FAS} {xs : List SV} {l : List AV} (ha : fa ρ ω = .ok xs ω1) (hl : xs.length ≤ 1000) (h1 : optAll fzs xs = none) (h2 : optAll toA xs = some l) : tupS fa ρ ω = .ok (.tp l) ω1 := by
  unfold tupS
  rw [ha, RS.bind_ok, if_pos hl]
  unfold mkT
  rw [h1]
  dsimp only
  rw [h2]; rfl
theorem sv_cb {f : List D → Option RV} {fa : FAS} {xs : List SV} (ha : fa ρ ω = .ok xs ω1) (hs : optAll (sh ω1) xs = some ds) (h : f ds = some (.fz d)) : cbS f fa ρ ω = .ok (.fz d) ω1 := by
  unfold cbS
  rw [ha, RS.bind_ok]
  unfold cbvS
  rw [hs]
  show ((RS.ofO ω1 (f ds)).bind fun rv ω1 => pushR ω1 rv) = _
  rw [h]; rfl
theorem noErS_ok {A : Type} {a : A} : noErS (RS.ok a ω) = .ok a ω := rfl
theorem sv_ixfz {fa fb : FES} (ha : fa ρ ω = .ok (.fz dx) ω1) (hb : fb ρ ω1 = .ok (.fz dy) ω2) (h : ixD dx dy = some (.fz d)) : ixS fa fb ρ ω = .ok (.fz d) ω2 := by
  unfold ixS
  rw [ha, RS.bind_ok, hb, RS.bind_ok]
  exact bin_fz h
theorem dct_eq {kvs : List (Key × SV)} (h : ω[i]? = some (.dct kvs)) : dctAt ω (.rf i) = some (i, kvs) := by unfold dctAt; dsimp only; rw [h]
variable {fl : FlS} {r : RS FlS}
theorem sv_ret {f : FES} (h : f ρ ω = .ok x ω1) : retS f ρ ω = .ok (.rt x) ω1 := by unfold retS; rw [h]; rfl
theorem sv_drop {f : FES} (h : f ρ ω = .ok x ω1) : dropS f ρ ω = .ok (.nx ρ) ω1 := by unfold dropS; rw [h]; rfl
theorem sv_frz {f : FES} (h : f ρ ω = .ok x ω1) (k : frz 4 ω1 x = some (d, ω2)) : frzS f ρ ω = .ok (.fz d) ω2 := by
  unfold frzS
  rw [h, RS.bind_ok]
  unfold frzR
  rw [k]
end
end L10
namespace L10
open PySem L2 L3
section
variable {ρ ρ1 ρ2 : SEnv} {ω ω1 ω2 ω3 ω4 : Sto} {x y z : SV} {i n : Nat} {d dx dy : D} {ds : List D} {b : Bool}
theorem sv_comp {n : Nat} {fj : List Nat} {fi : FIS} {gt : FGS} {ft : FTS} {fe : FES} {xs : List SV} (hi : fi ρ ω = .ok ds ω1) (hc : compvS gt ft fe ds (captS n fj ρ) ω1 [] = .ok xs ω2) : compS n fj fi gt ft fe ρ ω = .ok (.rf ω2.length) (ω2 ++ [.lst xs]) := by
  unfold compS
  rw [hi, RS.bind_ok, hc, noErS_ok, RS.bind_ok]
theorem frzL_fz (m : Nat) : ∀ (ds : List D), frzL (frz m) ω (ds.map .fz) = some (ds, ω)
  | [] => rfl
  | d :: r => by
    rw [List.map_cons]
    unfold frzL
    rw [show frz m ω (.fz d) = some (d, ω) by cases m <;> rfl]
    dsimp only
    rw [frzL_fz m r]
theorem frz_lst (h : ω[i]? = some (.lst (ds.map .fz))) : frz 4 ω (.rf i) = some (.list ds, ω.set i .dead) := by
  unfold frz
  rw [h]
  dsimp only
  rw [frzL_fz]
theorem sv_isq {fe : FES} (h : fe ρ ω = .ok (.rf i) ω1) (hl : ω1[i]? = some (.lst (ds.map .fz))) : iseqS fe ρ ω = .ok ds (ω1.set i .dead) := by
  unfold iseqS
  rw [h, RS.bind_ok, frz_lst hl]
  rfl
noncomputable def GoSD (N C : SEnv → Sto → Prop) (T : SV → Sto → Prop) : RS FlS → Prop
  | .ok (.nx ρ) ω => N ρ ω
  | .ok (.ct ρ) ω => C ρ ω
  | .ok (.rt v) ω => T v ω
  | _ => False
structure GoS (r : RS FlS) (N C : SEnv → Sto → Prop) (T : SV → Sto → Prop) : Prop where
  out : GoSD N C T r
variable {f g : FSS} {fe : FES} {N C : SEnv → Sto → Prop} {T : SV → Sto → Prop}
theorem GoS.eq {r r' : RS FlS} (e : r = r') (h : GoS r' N C T) : GoS r N C T := by rw [e]; exact h
theorem GoS.imp {r : RS FlS} {N' C' : SEnv → Sto → Prop} {T' : SV → Sto → Prop} (h : GoS r N C T) (hN : ∀ ρ ω, N ρ ω → N' ρ ω) (hC : ∀ ρ ω, C ρ ω → C' ρ ω) (hT : ∀ v ω, T v ω → T' v ω) : GoS r N' C' T' := by
  refine ⟨?_⟩
  have h := h.out
  cases r with
  | bad => exact h
  | er x ω => exact h
  | ok fl ω =>
    cases fl with
    | nx r => exact hN _ _ h
    | ct r => exact hC _ _ h
    | rt v => exact hT _ _ h
    | bk r => exact h
theorem os_seq (h : GoS (f ρ ω) (fun r o => GoS (g r o) N C T) C T) : GoS (seqS f g ρ ω) N C T := by
  refine ⟨?_⟩
  have h := h.out
  unfold seqS
  cases q : f ρ ω with
  | bad => rw [q] at h; exact h.elim
  | er x o => rw [q] at h; exact h.elim
  | ok fl o =>
    rw [q] at h
    cases fl with
    | nx r => exact (show GoS (g r o) N C T from h).out
    | ct r => exact h
    | rt v => exact h
    | bk r => exact h.elim
theorem os_asg {gt : FGS} (he : fe ρ ω = .ok x ω1) (hg : gt x ρ ω1 = .ok ρ1 ω2) (h : N ρ1 ω2) : GoS (asgS fe gt ρ ω) N C T := by
  refine ⟨?_⟩
  unfold asgS
  rw [he, RS.bind_ok, hg, RS.bind_ok]
  exact h
theorem os_nx (he : f ρ ω = .ok (.nx ρ1) ω1) (h : N ρ1 ω1) : GoS (f ρ ω) N C T := ⟨by rw [he]; exact h⟩
theorem os_rt (he : f ρ ω = .ok (.rt x) ω1) (h : T x ω1) : GoS (f ρ ω) N C T := ⟨by rw [he]; exact h⟩
theorem os_drop (he : fe ρ ω = .ok x ω1) (h : N ρ ω1) : GoS (dropS fe ρ ω) N C T := os_nx (sv_drop he) h
theorem os_ret (he : fe ρ ω = .ok x ω1) (h : T x ω1) : GoS (retS fe ρ ω) N C T := os_rt (sv_ret he) h
theorem os_next (h : N ρ ω) : GoS (nextS ρ ω) N C T := ⟨h⟩
theorem oq_asg {gt : FGS} (he : fe ρ ω = .ok x ω1) (hg : gt x ρ ω1 = .ok ρ1 ω2) (h : GoS (g ρ1 ω2) N C T) : GoS (seqS (asgS fe gt) g ρ ω) N C T := os_seq (os_asg he hg h)
theorem oq_nx (he : f ρ ω = .ok (.nx ρ1) ω1) (h : GoS (g ρ1 ω1) N C T) : GoS (seqS f g ρ ω) N C T := os_seq (os_nx he h)
theorem oq_drop (he : fe ρ ω = .ok x ω1) (h : GoS (g ρ ω1) N C T) : GoS (seqS (dropS fe) g ρ ω) N C T := os_seq (os_drop he h)
theorem oq_if {c : FTS} {f1 f2 : FSS} (hc : c ρ ω = .ok b ω1) (ht : b = true → GoS (seqS f1 g ρ ω1) N C T) (hf : b = false → GoS (seqS f2 g ρ ω1) N C T) : GoS (seqS (iffS c f1 f2) g ρ ω) N C T := by
  have e : seqS (iffS c f1 f2) g ρ ω = if b = true then seqS f1 g ρ ω1 else seqS f2 g ρ ω1 := by
    unfold seqS iffS
    rw [hc, RS.bind_ok]
    cases b <;> rfl
  refine .eq e ?_
  cases b with
  | true => exact ht rfl
  | false => exact hf rfl
theorem oq_ift {c : FTS} {f1 f2 : FSS} (hc : c ρ ω = .ok true ω1) (ht : GoS (seqS f1 g ρ ω1) N C T) : GoS (seqS (iffS c f1 f2) g ρ ω) N C T := oq_if hc (fun _ => ht) fun h => by cases h
theorem oq_iff {c : FTS} {f1 f2 : FSS} (hc : c ρ ω = .ok false ω1) (ht : GoS (seqS f2 g ρ ω1) N C T) : GoS (seqS (iffS c f1 f2) g ρ ω) N C T := oq_if hc (fun h => by cases h) fun _ => ht
theorem oq_ret (he : fe ρ ω = .ok x ω1) (h : T x ω1) : GoS (seqS (retS fe) g ρ ω) N C T := os_seq (os_ret he h)
theorem oq_next (h : GoS (g ρ ω) N C T) : GoS (seqS nextS g ρ ω) N C T := os_seq (os_next h)
theorem ford_go {gt : FGS} {b : FSS} (I : Nat → SEnv → Sto → Prop) : ∀ (ds : List D) (k : Nat) (ρ : SEnv) (ω : Sto), I k ρ ω → (∀ i d ρ ω, ds[i]? = some d → I (k + i) ρ ω → ∃ ρ1 ω1, gt (.fz d) ρ ω = .ok ρ1 ω1 ∧ GoS (b ρ1 ω1) (I (k + i + 1)) (I (k + i + 1)) T) → GoS (fordS gt b ds ρ ω) (I (k + ds.length)) C T
  | [], k, ρ, ω, h0, _ => ⟨h0⟩
  | d :: r, k, ρ, ω, h0, hs => by
    obtain ⟨ρ1, ω1, h1, h2⟩ := hs 0 d ρ ω rfl h0
    have h2 := h2.out
    have rest : ∀ ρ' ω', I (k + 1) ρ' ω' → GoS (fordS gt b r ρ' ω') (I (k + (r.length + 1))) C T := fun ρ' ω' h => by
      have e : k + (r.length + 1) = k + 1 + r.length := by omega
      rw [e]
      refine ford_go I r (k + 1) ρ' ω' h fun i d' ρ'' ω'' hi hI => ?_
      have e : k + 1 + i = k + (i + 1) := by omega
      rw [e] at hI ⊢
      exact hs (i + 1) d' ρ'' ω'' (by simpa using hi) hI
    refine ⟨?_⟩
    show GoSD _ _ _ ((gt (.fz d) ρ ω).bind _)
    rw [h1, RS.bind_ok]
    cases q : b ρ1 ω1 with
    | bad => rw [q] at h2; exact h2.elim
    | er x o => rw [q] at h2; exact h2.elim
    | ok fl o =>
      rw [q] at h2
      cases fl with
      | nx r => exact (rest _ _ h2).out
      | ct r => exact (rest _ _ h2).out
      | rt v => exact h2
      | bk r => exact h2.elim
theorem os_for {fi : FIS} {gt : FGS} {b : FSS} (I : Nat → SEnv → Sto → Prop) (hi : fi ρ ω = .ok ds ω1) (h0 : I 0 ρ ω1) (hs : ∀ i d ρ ω, ds[i]? = some d → I i ρ ω → ∃ ρ1 ω1, gt (.fz d) ρ ω = .ok ρ1 ω1 ∧ GoS (b ρ1 ω1) (I (i + 1)) (I (i + 1)) T) (hN : ∀ ρ' ω', I ds.length ρ' ω' → N ρ' ω') : GoS (forS fi gt b ρ ω) N C T := by
  have := ford_go (C := C) (T := T) I ds 0 ρ ω1 h0 (by simpa using hs)
  rw [Nat.zero_add] at this
  refine .eq ?_ (this.imp hN (fun _ _ h => h) fun _ _ h => h)
  unfold forS
  rw [hi, RS.bind_ok]
theorem os_run {n : Nat} {g : FSS} {xs : List SV} (hρ : xs.map some ++ List.replicate (n - xs.length) none = ρ) (h : GoS (g ρ ω) (fun _ ω' => T (.fz .none) ω') (fun _ _ => False) T) : ∃ x ω', runS n g xs ω = .ok x ω' ∧ T x ω' := by
  have h := h.out
  unfold runS
  rw [hρ]
  cases q : g ρ ω with
  | bad => rw [q] at h; exact h.elim
  | er x o => rw [q] at h; exact h.elim
  | ok fl o =>
    rw [q] at h
    cases fl with
    | nx r => exact ⟨_, _, rfl, h⟩
    | ct r => exact h.elim
    | rt v => exact ⟨_, _, rfl, h⟩
    | bk r => exact h.elim
end
section
variable {B O O' : Own} {K : PySem.W.Frag} {E : XK} {H H' H1 H2 : Hp} {α α' α1 α2 : List Addr} {ω ω' ω1 ω2 : Sto} {σ : L2.St} {ρ : SEnv} {v : V}
end
end L10
namespace L10
open PySem PySem.SeqAt PySem.Spec PySem.W PyProof.Rows L2 L3
section
variable {K : PySem.W.Frag} {E : XK}
end
end L10
namespace L10
open PySem PyProof.Rows L2 L3
section
variable {B O O' : Own} {K : PySem.W.Frag} {E : XK} {H H' H1 H2 : Hp} {α α' α1 α2 : List Addr} {ω ω' ω1 ω2 : Sto} {σ : L2.St} {ρ : SEnv} {v : V}
end
end L10
namespace L10
open PySem PySem.Spec PyProof.Rows L2 L3
section
variable {X : Cx} {tg : Expr}
end
end L10
namespace L10
open PySem PyProof.Rows L2 L3
section
variable {O O' : Own} {K : PySem.W.Frag} {H H' : Hp} {a b : Addr} {xs : List V} {φ : Heap → Prop}
noncomputable def Evx (a : Addr) (O : Own) (H : Hp) (O' : Own) (H' : Hp) : Prop := ∀ b o, b ≠ a → H b = some o → ¬ O b → H' b = some o ∧ ¬ O' b
theorem SqLO.evx (hx : H a = some (.ext φ)) (h : SqLO O K H b xs) (e : Evx a O H O' H') : SqLO O' K H' b xs := by
  obtain ⟨h, k⟩ := h
  by_cases z : O b
  · exact ⟨SqLX.same (same_none H') (k z), fun _ => k z⟩
  · rcases h with (h | ⟨o, h⟩) | h
    · obtain ⟨h1, h2⟩ := e b _ (fun y => by rw [y, hx] at h; cases h) h z
      exact ⟨.inl (.inl h1), fun y => absurd y h2⟩
    · obtain ⟨h1, h2⟩ := e b _ (fun y => by rw [y, hx] at h; cases h) h z
      exact ⟨.inl (.inr ⟨o, h1⟩), fun y => absurd y h2⟩
    · exact ⟨.inr h, fun _ => .inr h⟩
theorem SqTO.evx (hx : H a = some (.ext φ)) (h : SqTO O K H b xs) (e : Evx a O H O' H') : SqTO O' K H' b xs := by
  obtain ⟨h, k⟩ := h
  by_cases z : O b
  · exact ⟨(same_none H').tup (k z), fun _ => k z⟩
  · rcases h with (h | ⟨o, h⟩) | h
    · obtain ⟨h1, h2⟩ := e b _ (fun y => by rw [y, hx] at h; cases h) h z
      exact ⟨.inl (.inl h1), fun y => absurd y h2⟩
    · obtain ⟨h1, h2⟩ := e b _ (fun y => by rw [y, hx] at h; cases h) h z
      exact ⟨.inl (.inr ⟨o, h1⟩), fun y => absurd y h2⟩
    · exact ⟨.inr h, fun _ => .inr h⟩
mutual
theorem DV.evx (hx : H a = some (.ext φ)) (e : Evx a O H O' H') : ∀ {v : V} {d : D}, L3.DV O K H v d → L3.DV O' K H' v d
  | _, _, .non => .non
  | _, _, .bl b => .bl b
  | _, _, .int i => .int i
  | _, _, .str x => .str x
  | _, _, .tup h hs => .tup (SqTO.evx hx h e) (DVs.evx hx e hs)
  | _, _, .lst h hs => .lst (SqLO.evx hx h e) (DVs.evx hx e hs)
theorem DVs.evx (hx : H a = some (.ext φ)) (e : Evx a O H O' H') : ∀ {vs : List V} {ds : List D}, L3.DVs O K H vs ds → L3.DVs O' K H' vs ds
  | _, _, .nil => .nil
  | _, _, .cons h hs => .cons (DV.evx hx e h) (DVs.evx hx e hs)
end
end
section
variable {B O O' : Own} {K : PySem.W.Frag} {E : XK} {H H' H1 H2 : Hp} {α α' α1 α2 : List Addr} {ω ω' ω1 ω2 : Sto} {σ : L2.St} {ρ : SEnv} {v : V} {φ : Heap → Prop} {a b : Addr}
end
end L10
namespace PySem
open Sem (wp)
open PyProof.Rows
section
variable {prog : Program} {w : World} {A : Around} {E : Value → Shared → Prop} {s : Shared} {t : Addr} {xs : Array (Int × Tok)}
end
end PySem
namespace L10
open PySem PySem.Spec PyProof.Rows L2 L3
end L10
namespace L10
open PySem PyProof.Rows L2 L3
section
variable {B O O' : Own} {K : PySem.W.Frag} {E : XK} {H H' H1 H2 : Hp} {α α' α1 α2 : List Addr} {ω ω' ω1 ω2 : Sto} {σ : L2.St} {ρ : SEnv} {v : V}
end
end L10
namespace L3
open PySem PySem.Spec PyProof.Rows L2
end L3
namespace L3
open PySem L2
structure NI (K : PySem.W.Frag) (f : Addr) (n : Str) (t : Stmt) : Prop where
  a : PySem.W.nsIn K mainGlobals n = some (some (.ref f))
  F : ∃ fd, Fun K n n t f fd
structure MI (K : PySem.W.Frag) (C f : Addr) (m q : Str) (t : Stmt) : Prop where
  a : PySem.W.findIn K (.ref C) m = some (some (.ref f))
  i : PySem.W.isFn K (.ref f) = true
  F : ∃ fd, Fun K m q t f fd
structure CI (K : PySem.W.Frag) (C : Addr) (n : Str) (fs : List Str) : Prop where
  a : PySem.W.nsIn K mainGlobals n = some (some (.ref C))
  pg : PySem.W.plainGet K C Str.empty = true
  hd : PySem.W.hasDictIn K C = true
  po : PySem.W.plainOver K C = true
  sa : PySem.W.findIn K (.ref C) "__setattr__" = some (some (.builtin "object.__setattr__"))
  mm : PySem.W.makesIn K C = true
  kc : PySem.W.keepIn K (.ref C) = true
  fl : ∀ x ∈ fs, NoAttr K C x
noncomputable def BA (n q : Str) (t : Stmt) (ps : List Str) : Prop := ∀ (kV doc pm : Value) (an : Option Addr) (cdv ct : Value) (us : List Value), us.length = ps.length → bindArgs (PySem.W.fnOf n q (defArgs t) (defBody t) (defScope t) .none kV doc pm an cdv ct) ⟨us, []⟩ = pure (ps.zip us)
section
variable {P : Program} {w : World} {K : PySem.W.Frag} {mg : Str → Option Value} {base h : Heap} {f C : Addr} {n m q : Str} {t : Stmt} {ps fs : List Str} {lv k : Nat} {sp sp' : Sp}
theorem NI.cal (i : NI K f n t) (X : K.In h) (G : h.Ns mainGlobals mg) (hb : BA n n t ps) (ok : ∀ fd, Fun K n n t f fd → FnOk P w K mg base CX0 lv f fd ps sp) : CalOk P w K mg base lv n ps sp :=
  let ⟨fd, z⟩ := i.F; ⟨f, fd, ok fd z, z.binds hb, z.kp, PySem.W.mg_of X G i.a⟩
theorem NI.law {fa : Addr} {x : Str} (i : NI K f "law" t) (X : K.In h) (G : h.Ns mainGlobals mg) (hfa : mg "law" = some (.ref fa)) (hb : BA "law" "law" t [x]) (ok : ∀ base fd, Fun K "law" "law" t f fd → FnOk P w K mg base CX0 lv f fd [x] sp) : ∃ fd : FuncData, (∀ (s : Shared) (v : Value), BindsTo s fd ⟨[v], []⟩ [(x, v)]) ∧ ∀ base : Heap, K.In base → base.Ns mainGlobals mg → FnOk P w K mg base CX0 lv fa fd [x] sp := by
  have e := hfa.symm.trans (PySem.W.mg_of X G i.a)
  cases e
  obtain ⟨fd, z⟩ := i.F
  obtain ⟨oc, od, kV, doc, pm, an, cdv, ct, osl, rfl, lk, hcd⟩ := z.ex
  exact ⟨_, fun s v => .of_eq (hb kV doc pm an cdv ct [v] rfl), fun base _ _ => ok base _ z⟩
theorem hv_of {A : Around} {k : Nat} (hr : Room k A) : A.units + 65 < cLine := by have := hr.un; omega
theorem exS {X : Cx} {E : XK} {b : List Stmt} {u : TS} {g : FS} (p : SO K E u g) (h : PSs X b u) : ∃ t, PSs X b t ∧ SO K E t g := ⟨_, h, p⟩
theorem exT {X : Cx} {E : XK} {b : List Stmt} {u : TS} {g : L10.FSS} (p : L10.SOS K E u g) (h : PSs X b u) : ∃ t, PSs X b t ∧ L10.SOS K E t g := ⟨_, h, p⟩
theorem okF2 {x qual : Str} {st : Stmt} {fd : FuncData} {N : List Str} {n m : Nat} {g : FS} {FF : FN} (F : Fun K x qual st f fd) (S : FnScope N ps (defScope st)) (hn : ps.length = n) (hm : N.length = m) (hF : FF = runF m g)
    (hbody : ∀ (cdv : Value) (A : Around) (outer : List Env) (s : Shared) (H : Hp) (E : XK), N.Nodup → Room k (A.deeper (PyProof.Rows.envOfC qual (defScope st) s.heap.objs.size f cdv)) → (A.deeper (PyProof.Rows.envOfC qual (defScope st) s.heap.objs.size f cdv)).units + 64 < cLine → (A.deeper (PyProof.Rows.envOfC qual (defScope st) s.heap.objs.size f cdv)).units + 1 < cLine → (A.deeper (PyProof.Rows.envOfC qual (defScope st) s.heap.objs.size f cdv)).units + 65 < cLine →
      ∃ t, PSs (cxOf CX0 P w K mg base N qual (defScope st) f cdv A outer s H E).nox (defBody st) t ∧ SO K E t g) : FnOk P w K mg base CX0 (k + 1) f fd ps (spP K n FF) :=
  okF F S hn hm hF fun cdv A outer s H E hr => hbody cdv A outer s H E S.nd hr hr.units (hu_of hr) (hv_of hr)
theorem okS2 {x qual : Str} {st : Stmt} {fd : FuncData} {N : List Str} {n m : Nat} {g : L10.FSS} {FF : L10.FNS} (F : Fun K x qual st f fd) (S : FnScope N ps (defScope st)) (hn : ps.length = n) (hm : N.length = m) (hF : FF = L10.runS m g)
    (hbody : ∀ (cdv : Value) (A : Around) (outer : List Env) (s : Shared) (H : Hp) (E : XK), N.Nodup → Room k (A.deeper (PyProof.Rows.envOfC qual (defScope st) s.heap.objs.size f cdv)) → (A.deeper (PyProof.Rows.envOfC qual (defScope st) s.heap.objs.size f cdv)).units + 64 < cLine → (A.deeper (PyProof.Rows.envOfC qual (defScope st) s.heap.objs.size f cdv)).units + 1 < cLine → (A.deeper (PyProof.Rows.envOfC qual (defScope st) s.heap.objs.size f cdv)).units + 65 < cLine →
      ∃ t, PSs (cxOf CX0 P w K mg base N qual (defScope st) f cdv A outer s H E).nox (defBody st) t ∧ L10.SOS K E t g) : FnOk P w K mg base CX0 (k + 1) f fd ps (L10.spS K n FF) :=
  L10.okS F S hn hm hF fun cdv A outer s H E hr => hbody cdv A outer s H E S.nd hr hr.units (hu_of hr) (hv_of hr)
end
end L3
namespace L2
open PySem PySem.Spec PyProof.Rows
section
variable {X : Cx} {tg : Expr}
end
end L2
namespace L3
open PySem PySem.Spec PyProof.Rows L2
section
variable {K : PySem.W.Frag} {E : XK}
end
end L3
namespace L10R
open PySem PySem.Calls PyProof.Rows
section
variable {prog : Program} {w : World} {A : Around} {E : Value → Shared → Prop} {s : Shared} {r l : Addr} {items : Array Value}
end
end L10R
namespace L2
open PySem PySem.Spec PyProof.Rows
section
variable {X : Cx} {e : Expr} {te : TE} {p q p1 p2 : Pos}
end
end L2
namespace L10
open PySem PySem.Spec PyProof.Rows L2 L3
end L10
namespace L9
open PySem PySem.Spec PyProof.Rows L2 L3 L4
section
variable {X : Cx} {e : Expr} {es : List Expr} {n : Nat} {te : TE} {t : L2.St → Hp → (Hp → Prop) → Prop} {pos : Pos}
end
end L9
namespace L2
open PySem PySem.Spec PyProof.Rows
end L2
namespace L3
open PySem L2
end L3
namespace L10
open PySem PySem.Spec PyProof.Rows L2 L3
section
variable {B O O' : Own} {K : PySem.W.Frag} {E : XK} {H H' H1 H2 : Hp} {α α' α1 α2 : List Addr} {ω ω' ω1 ω2 : Sto} {σ : L2.St} {ρ : SEnv} {v : V}
end
end L10
namespace L4
open PySem PySem.Spec PyProof.Rows L2 L3
end L4
namespace L3
open PySem L2
end L3
namespace LD
open PySem PyProof.Rows L2 L3
section
variable {prog : Program} {w : World} {K : Type} [DecidableEq K] {knd : HeapKind prog w K} {A : Around} {E : Value → Shared → Prop} {s : Shared}
noncomputable def offH (xs : List (K × Addr × Value)) (k : K) : List (K × Addr × Value) := xs.filter fun x => decide (x.1 ≠ k)
theorem offH_none {xs : List (K × Addr × Value)} {k : K} (h : k ∉ xs.map (·.1)) : offH xs k = xs := by
  unfold offH
  rw [List.filter_eq_self]
  intro x hx
  exact decide_eq_true fun e => h (e ▸ List.mem_map.mpr ⟨x, hx, rfl⟩)
theorem off_erase {k : K} : ∀ {xs : List (K × Addr × Value)} {j : Nat} {p : Addr × Value}, (xs.map (·.1)).Nodup → xs[j]? = some (k, p) → xs.eraseIdx j = offH xs k
  | [], _, _, _, h => by simp at h
  | x :: r, 0, p, hn, h => by
    simp only [List.getElem?_cons_zero, Option.some.injEq] at h
    subst h
    rw [List.map_cons, List.nodup_cons] at hn
    rw [List.eraseIdx_zero, List.tail_cons]
    show r = offH ((k, p) :: r) k
    unfold offH
    rw [List.filter_cons, if_neg (by simp)]
    exact (offH_none hn.1).symm
  | x :: r, j + 1, p, hn, h => by
    simp only [List.getElem?_cons_succ] at h
    rw [List.map_cons, List.nodup_cons] at hn
    have hm : k ∈ r.map (·.1) := List.mem_map.mpr ⟨(k, p), List.mem_of_getElem? h, rfl⟩
    have hne : x.1 ≠ k := fun e => hn.1 (e ▸ hm)
    rw [List.eraseIdx_cons_succ, off_erase hn.2 h]
    unfold offH
    rw [List.filter_cons, if_pos (decide_eq_true hne)]
theorem erase_map {α β : Type} (f : α → β) : ∀ (l : List α) (j : Nat), (l.map f).eraseIdx j = (l.eraseIdx j).map f
  | [], _ => rfl
  | _ :: _, 0 => rfl
  | x :: r, j + 1 => by rw [List.map_cons, List.eraseIdx_cons_succ, List.eraseIdx_cons_succ, List.map_cons, erase_map f r j]
theorem takeOut_heap {d a : Addr} {xs : List (K × Addr × Value)} {k : K} {p : Addr × Value} {Q : Option DictEntry → Shared → Prop} (hu : knd.room A) (hkey : knd.is s.heap k a) (hm : s.heap.DictOfH knd d xs) (hp : atKey xs k = some p) (hsz : xs.length ≤ sizeLine)
    (hQ : ∀ (e : DictEntry) h', e.val = p.2 → h'.DictOfH knd d (offH xs k) → Heap.SameBut d s.heap h' → Q (some e) { s with heap := h', toks := s.toks + knd.draws k }) : wpAny (model prog w) A (Builtin.Dict.takeOut d (.ref a)) Q E s := by
  obtain ⟨o, es, ep, ho, hc, hd, he, his, hn⟩ := hm
  unfold Builtin.Dict.takeOut
  try with_reducible refine wpAny_holding ?_
  refine wpAny_bind (knd.pyHash hu hkey (wpAny_bind (wpAny_dictFind_heap (s := { s with toks := s.toks + knd.draws k }) hu hkey ho hd he his hn ?_ ?_)))
  · intro hno
    rw [atKey_none_of_get hno] at hp
    cases hp
  · intro j p' hj
    have e := atKey_of_get hn hj
    rw [hp] at e
    cases e
    refine wpAny_bind (wpAny_dictEntries (s := { s with toks := s.toks + knd.draws k }) ho hd ?_)
    rw [entry_at he j, hj]
    refine wpAny_bind (wpAny_updateDictKeys (hz := by have e := size_of_entries he; omega) (s := { s with toks := s.toks + knd.draws k }) ho hd (wpAny_pure (hQ _ _ rfl ⟨_, _, ep + 1, Heap.get?_update_self _ ho (Obj.isFreed_of_dict (Obj.data_mapDictKeys hd _)),
      hc.mapDictKeys _, Obj.data_mapDictKeys hd _, ?_, ?_, ?_⟩ (Heap.SameBut.update ..))))
    · rw [← off_erase hn hj, ← erase_map, ← he]
      simp
    · intro x hx
      exact knd.keeps (his x (List.mem_filter.mp hx).1) ho hd (Heap.SameBut.update ..)
    · exact hn.sublist ((List.filter_sublist).map _)
theorem meetsH_pop (d a : Addr) : MeetsIn prog w (Builtin.«dict.pop» ⟨[.ref d, .ref a], []⟩) (fun A R s => knd.room A.in1 ∧ ∃ k xs p, knd.is s.heap k a ∧ s.heap.DictOfH knd d xs ∧ xs.length ≤ sizeLine ∧ atKey xs k = some p ∧
    ∀ h', h'.DictOfH knd d (offH xs k) → Heap.SameBut d s.heap h' → R (.ok (.ret p.2)) { s with heap := h', toks := s.toks + knd.draws k }) :=
  .of_wp fun A R s ⟨hu, k, xs, p, hkey, hm, hsz, hp, h⟩ => by
    unfold Builtin.«dict.pop»
    refine wpAny_bind ?_
    unfold Builtin.Dict.keyAndDefault
    refine wpAny_bind (wpAny_notOrdered_dict hm.typeIs ?_)
    show wpAny _ _ (pure (d, Value.ref a, none)) _ _ s
    refine wpAny_pure ?_
    have hm' := hm
    obtain ⟨o, es, ep, ho, _, hd, he, _, _⟩ := hm'
    have hne : es.isEmpty = false := by
      cases q : es.isEmpty with
      | false => rfl
      | true =>
        rw [Array.isEmpty_iff] at q
        subst q
        cases xs with
        | nil => cases hp
        | cons x r => cases he
    have hpart : (keyPart (.ref a)).isSome = false := rfl
    simp only [hpart, Bool.false_eq_true, if_false]
    refine wpAny_bind (wpAny_dictEntries ho hd ?_)
    refine wpAny_bind (wpAny_pure ?_)
    rw [hne]
    simp only [Bool.false_eq_true, if_false]
    refine wpAny_bind (takeOut_heap hu hkey hm hp hsz fun e h' hv hm' hs' => ?_)
    simp only [Option.isNone_some, Bool.false_eq_true, if_false]
    exact wpAny_bind (wpAny_letGo (wpAny_pure ⟨e.val, rfl, by rw [hv]; exact h h' hm' hs'⟩))
end
noncomputable def getX (xs : List (KD × Addr × V)) (k : KD) : Option V := (xs.find? fun x => decide (x.1 = k)).map (·.2.2)
noncomputable def putX (xs : List (KD × Addr × V)) (k : KD) (b : Addr) (v : V) : List (KD × Addr × V) :=
  if (xs.find? fun x => decide (x.1 = k)).isSome = true then xs.map (fun x => if x.1 = k then (x.1, x.2.1, v) else x) else xs ++ [(k, b, v)]
noncomputable def dropX (xs : List (KD × Addr × V)) (k : KD) : List (KD × Addr × V) := xs.filter fun x => decide (x.1 ≠ k)
noncomputable abbrev RX : List (KD × Addr × V) → List (KD × Addr × Value) → Prop := Paired fun x y => x.1 = y.1 ∧ x.2.1 = y.2.1 ∧ RelV x.2.2 y.2.2
theorem rx_keys : ∀ {xs : List (KD × Addr × V)} {ys : List (KD × Addr × Value)}, RX xs ys → xs.map (·.1) = ys.map (·.1)
  | _, _, .nil => rfl
  | _, _, .cons h t => by rw [List.map_cons, List.map_cons, h.1, rx_keys t]
theorem rx_get {k : KD} : ∀ {xs : List (KD × Addr × V)} {ys : List (KD × Addr × Value)}, RX xs ys → RelO (getX xs k) ((atKey ys k).map (·.2))
  | _, _, .nil => by unfold getX atKey; exact trivial
  | x :: xs, y :: ys, .cons h t => by
    unfold getX atKey
    rw [List.find?_cons, List.find?_cons, h.1]
    by_cases e : y.1 = k
    · rw [decide_eq_true e]; exact h.2.2
    · rw [decide_eq_false e]; exact rx_get t
theorem rx_find {k : KD} : ∀ {xs : List (KD × Addr × V)} {ys : List (KD × Addr × Value)}, RX xs ys → (xs.find? fun x => decide (x.1 = k)).isSome = (atKey ys k).isSome
  | _, _, .nil => rfl
  | x :: xs, y :: ys, .cons h t => by
    unfold atKey
    rw [List.find?_cons, List.find?_cons, h.1]
    by_cases e : y.1 = k
    · rw [decide_eq_true e]; rfl
    · rw [decide_eq_false e]; exact rx_find t
theorem rx_map {k : KD} {v : V} {u : Value} (r : RelV v u) : ∀ {xs : List (KD × Addr × V)} {ys : List (KD × Addr × Value)}, RX xs ys → RX (xs.map fun x => if x.1 = k then (x.1, x.2.1, v) else x) (ys.map (putAt k u))
  | _, _, .nil => .nil
  | x :: xs, y :: ys, .cons h t => by
    rw [List.map_cons, List.map_cons]
    refine .cons ?_ (rx_map r t)
    unfold putAt
    by_cases e : y.1 = k
    · rw [if_pos (h.1.trans e), if_pos e]; exact ⟨h.1, h.2.1, r⟩
    · rw [if_neg (by rw [h.1]; exact e), if_neg e]; exact h
theorem rx_snoc {x : KD × Addr × V} {y : KD × Addr × Value} (h : x.1 = y.1 ∧ x.2.1 = y.2.1 ∧ RelV x.2.2 y.2.2) : ∀ {xs : List (KD × Addr × V)} {ys : List (KD × Addr × Value)}, RX xs ys → RX (xs ++ [x]) (ys ++ [y])
  | _, _, .nil => .cons h .nil
  | _, _, .cons g t => .cons g (rx_snoc h t)
theorem rx_put {k : KD} {b : Addr} {v : V} {u : Value} (r : RelV v u) {xs : List (KD × Addr × V)} {ys : List (KD × Addr × Value)} (h : RX xs ys) : RX (putX xs k b v) (storedH ys k b u) := by
  unfold putX storedH
  rw [rx_find h]
  split
  · exact rx_map r h
  · exact rx_snoc ⟨rfl, rfl, r⟩ h
theorem rx_drop {k : KD} : ∀ {xs : List (KD × Addr × V)} {ys : List (KD × Addr × Value)}, RX xs ys → RX (dropX xs k) (offH ys k)
  | _, _, .nil => .nil
  | x :: xs, y :: ys, .cons h t => by
    unfold dropX offH
    rw [List.filter_cons, List.filter_cons, h.1]
    by_cases e : y.1 ≠ k
    · rw [if_pos (decide_eq_true e), if_pos (decide_eq_true e)]; exact .cons h (rx_drop t)
    · rw [if_neg (by simpa using e), if_neg (by simpa using e)]; exact rx_drop t
theorem length_putX (xs : List (KD × Addr × V)) (k : KD) (b : Addr) (v : V) : (putX xs k b v).length ≤ xs.length + 1 := by
  unfold putX
  split
  · rw [List.length_map]; omega
  · rw [List.length_append]; exact Nat.le_refl _
noncomputable def KsOk (K : PySem.W.Frag) (H : Hp) (xs : List (KD × Addr × V)) : Prop := ∀ x ∈ xs, L2.DV K H (.ref x.2.1) x.1.1
section
variable {X : Cx} {pins : List (Addr × Obj)} {σ : L2.St} {H : Hp} {s : Shared} {a b : Addr} {xs : List (KD × Addr × V)} {k : KD} {v : V} {u r : Value} {A : Around} {E : Value → Shared → Prop}
theorem rx_of {P : Program} {w : World} : ∀ {xs : List (KD × Addr × V)} {es : List DictEntry}, Paired (fun (x : KD × Addr × V) (e : DictEntry) => e.hash = hashD w x.1.1 ∧ e.key = .ref x.2.1 ∧ RelV x.2.2 e.val) xs es → ∃ ys, RX xs ys ∧ es = ys.map (entryOfKey (deepKind P w))
  | _, _, .nil => ⟨[], .nil, rfl⟩
  | x :: _, e :: _, .cons ⟨h1, h2, h3⟩ t => by
    obtain ⟨ys, g1, g2⟩ := rx_of (P := P) t
    refine ⟨(x.1, x.2.1, e.val) :: ys, .cons ⟨rfl, rfl, h3⟩ g1, ?_⟩
    rw [List.map_cons, ← g2]
    obtain ⟨eh, ek, ev⟩ := e
    dsimp only at h1 h2
    subst h1 h2
    rfl
theorem rx_to {P : Program} {w : World} : ∀ {xs : List (KD × Addr × V)} {ys : List (KD × Addr × Value)}, RX xs ys → Paired (fun (x : KD × Addr × V) (e : DictEntry) => e.hash = hashD w x.1.1 ∧ e.key = .ref x.2.1 ∧ RelV x.2.2 e.val) xs (ys.map (entryOfKey (deepKind P w)))
  | _, _, .nil => .nil
  | _, _, .cons h t => .cons ⟨by rw [h.1]; rfl, by rw [h.2.1]; rfl, h.2.2⟩ (rx_to t)
theorem key_at (I : L2.Inv X pins σ H s) (h : L2.DV X.K H (.ref b) k.1) : (deepKind X.prog X.w).is s.heap k b := L2.DV.reads I h rfl
theorem dd_of (I : L2.Inv X pins σ H s) (e : H a = some (DkO a xs)) (hk : KsOk X.K H xs) : xs.length ≤ sizeLine ∧ (a == sysModules) = false ∧ ∃ ys, RX xs ys ∧ s.heap.DictOfH (deepKind X.prog X.w) a ys := by
  obtain ⟨⟨⟨z, hd, nd⟩, o, es, ep, h1, h2, h3, h4⟩, _⟩ := (show ObjOk X.prog X.w H s.heap a (DkO a xs) from I.hok a _ e)
  obtain ⟨ys, g1, g2⟩ := rx_of (P := X.prog) h4
  refine ⟨z, hd, ys, g1, o, es, ep, h1, h2, h3, g2, ?_, by rw [← rx_keys g1]; exact nd⟩
  have all : ∀ {l : List (KD × Addr × V)} {m : List (KD × Addr × Value)}, RX l m → (∀ x ∈ l, L2.DV X.K H (.ref x.2.1) x.1.1) → ∀ y ∈ m, (deepKind X.prog X.w).is s.heap y.1 y.2.1 := by
    intro l m q
    induction q with
    | nil => intro _ y hy; exact nomatch hy
    | @cons p q ps qs hq t ih =>
      intro g y hy
      rcases List.mem_cons.mp hy with e | hy
      · subst e
        have := key_at I (g p (List.mem_cons_self ..))
        rw [hq.1, hq.2.1] at this
        exact this
      · exact ih (fun x hx => g x (List.mem_cons_of_mem _ hx)) y hy
  exact all g1 hk
theorem dd_new {P : Program} {w : World} {H' : Hp} {h' : Heap} {ys : List (KD × Addr × Value)} (z : xs.length ≤ sizeLine) (hd : (a == sysModules) = false) (rel : RX xs ys) (dd : h'.DictOfH (deepKind P w) a ys) : ObjOk P w H' h' a (DkO a xs) := by
  obtain ⟨o, es, ep, h1, h2, h3, h4, h5, h6⟩ := dd
  refine ⟨⟨⟨z, hd, by rw [rx_keys rel]; exact h6⟩, o, es, ep, h1, h2, h3, by rw [h4]; exact rx_to rel⟩, ⟨o, h1⟩, ?_⟩
  rintro g1 g2 ⟨q, o, es, ep, e1, e2⟩ st
  exact ⟨q, o, es, ep, st o e1, e2⟩
theorem room_dd (hu : A.units + 64 < cLine) : (deepKind X.prog X.w).room A.in1 := by
  show A.in1.units + 8 < cLine
  rw [Around.in1_units]; omega
theorem dd_get {Q : Value → Shared → Prop} (hu : A.units + 64 < cLine) (I : L2.Inv X pins σ H s) (e : H a = some (DkO a xs)) (hk : KsOk X.K H xs) (hb : L2.DV X.K H (.ref b) k.1) (g : getX xs k = some v) (h : ∀ w' s', L2.Inv X pins σ H s' → RelV v w' → Q w' s') :
    wpAny (model X.prog X.w) A (getItem (.ref a) (.ref b)) Q E s := by
  obtain ⟨z, hd, ys, rel, dd⟩ := dd_of I e hk
  obtain ⟨w', hw, rw'⟩ := RelO.some_of (v := v) (o := (atKey ys k).map (·.2)) (by rw [← g]; exact rx_get rel)
  obtain ⟨p, hp, hp2⟩ := Option.map_eq_some_iff.mp hw
  refine wpAny_getItem_heap (room_dd hu) (key_at I hb) dd hp ?_
  rw [hp2]
  exact h w' _ (I.tok _) rw'
theorem dd_in {Q : Value → Shared → Prop} (hu : A.units + 64 < cLine) (I : L2.Inv X pins σ H s) (e : H a = some (DkO a xs)) (hk : KsOk X.K H xs) (hb : L2.DV X.K H (.ref b) k.1) (h : ∀ s', L2.Inv X pins σ H s' → Q (.bool (getX xs k).isSome) s') :
    wpAny (model X.prog X.w) A (compareOp .In (.ref b) (.ref a)) Q E s := by
  obtain ⟨z, hd, ys, rel, dd⟩ := dd_of I e hk
  refine wpAny_in_heap (room_dd hu) (key_at I hb) hd dd ?_
  have q := (rx_get (k := k) rel).isSome_eq
  rw [Option.isSome_map] at q
  rw [← q]
  exact h _ (I.tok _)
theorem dd_nin {Q : Value → Shared → Prop} (hu : A.units + 64 < cLine) (I : L2.Inv X pins σ H s) (e : H a = some (DkO a xs)) (hk : KsOk X.K H xs) (hb : L2.DV X.K H (.ref b) k.1) (h : ∀ s', L2.Inv X pins σ H s' → Q (.bool (!(getX xs k).isSome)) s') :
    wpAny (model X.prog X.w) A (compareOp .NotIn (.ref b) (.ref a)) Q E s := by
  obtain ⟨z, hd, ys, rel, dd⟩ := dd_of I e hk
  refine wpAny_notIn_heap (room_dd hu) (key_at I hb) hd dd ?_
  have q := (rx_get (k := k) rel).isSome_eq
  rw [Option.isSome_map] at q
  rw [← q]
  exact h _ (I.tok _)
theorem dd_put {Q : Unit → Shared → Prop} (hu : A.units + 64 < cLine) (I : L2.Inv X pins σ H s) (e : H a = some (DkO a xs)) (hk : KsOk X.K H xs) (hb : L2.DV X.K H (.ref b) k.1) (rv : RelV v r) (hl : xs.length < sizeLine) (h : ∀ s', L2.Inv X pins σ (upd H a (DkO a (putX xs k b v))) s' → Q () s') :
    wpAny (model X.prog X.w) A (setItem (.ref a) (.ref b) r) Q E s := by
  obtain ⟨z, hd, ys, rel, dd⟩ := dd_of I e hk
  have hz : ys.length ≤ sizeLine := by rw [← Paired.length rel]; exact z
  have hl' : (putX xs k b v).length ≤ sizeLine := by have := length_putX xs k b v; omega
  refine wpAny_setItem_heap (hsz := hz) (room_dd hu) (key_at I hb) dd fun h' dd' hs => h _ ?_
  have he : ∃ q, h'.get? a = some q := let ⟨q, _, _, hq, _⟩ := dd'; ⟨q, hq⟩
  exact d_write I (by rw [e]; exact True.intro) hs he (dd_new hl' hd (rx_put rv rel) dd')
theorem dd_get2 {d : V} {Q : Value → Shared → Prop} (hu : A.units + 64 < cLine) (I : L2.Inv X pins σ H s) (e : H a = some (DkO a xs)) (hk : KsOk X.K H xs) (hb : L2.DV X.K H (.ref b) k.1) (rd : RelV d r) (h : ∀ w' s', L2.Inv X pins σ H s' → RelV ((getX xs k).getD d) w' → Q w' s') :
    wpAny (model X.prog X.w) A (call (.builtin "dict.get") [.ref a, .ref b, r]) Q E s := by
  obtain ⟨z, hd, ys, rel, dd⟩ := dd_of I e hk
  refine call_meetsIn PySem.F.slot_dict_get dd.typeIs PySem.F.entry_dict_get (PySem.F.args_dict_get_3 _ _ _) (meetsH_dict_get_default (deepKind X.prog X.w) a b hd r) ⟨room_dd (by omega), k, ys, key_at I hb, dd, h _ _ (I.tok _) ?_⟩
  exact (rx_get rel).getD rd
theorem dd_pop {Q : Value → Shared → Prop} (hu : A.units + 64 < cLine) (I : L2.Inv X pins σ H s) (e : H a = some (DkO a xs)) (hk : KsOk X.K H xs) (hb : L2.DV X.K H (.ref b) k.1) (g : getX xs k = some v) (h : ∀ w' s', L2.Inv X pins σ (upd H a (DkO a (dropX xs k))) s' → RelV v w' → Q w' s') :
    wpAny (model X.prog X.w) A (call (.builtin "dict.pop") [.ref a, .ref b]) Q E s := by
  obtain ⟨z, hd, ys, rel, dd⟩ := dd_of I e hk
  obtain ⟨w', hw, rw'⟩ := RelO.some_of (v := v) (o := (atKey ys k).map (·.2)) (by rw [← g]; exact rx_get rel)
  obtain ⟨p, hp, hp2⟩ := Option.map_eq_some_iff.mp hw
  refine call_meetsIn PySem.F.slot_dict_pop dd.typeIs PySem.F.entry_dict_pop (PySem.F.args_dict_pop_2 _ _) (meetsH_pop (knd := deepKind X.prog X.w) a b) ⟨room_dd (by omega), k, ys, p, key_at I hb, dd, by rw [← Paired.length rel]; exact z, hp, fun h' dd' hs => ?_⟩
  rw [hp2]
  refine h w' _ ?_ rw'
  have he : ∃ q, h'.get? a = some q := let ⟨q, _, _, hq, _⟩ := dd'; ⟨q, hq⟩
  exact d_write I (by rw [e]; exact True.intro) hs he (dd_new (Nat.le_trans (List.length_filter_le _ _) z) hd (rx_drop rel) dd')
theorem dd_type (I : L2.Inv X pins σ H s) (e : H a = some (DkO a xs)) : s.TypeIs (.ref a) "dict" ∧ (∀ b, Value.ref a = .ref b → ∃ ob, s.heap.get? b = some ob ∧ ob.dict = none) ∧ (a == sysModules) = false := by
  obtain ⟨⟨⟨z, hd, nd⟩, o, es, ep, h1, h2, h3, h4⟩, _⟩ := (show ObjOk X.prog X.w H s.heap a (DkO a xs) from I.hok a _ e)
  refine ⟨⟨o, h1, h2.1⟩, fun b q => ?_, hd⟩
  cases q
  exact ⟨o, h1, h2.2.1⟩
end
section
variable (K : PySem.W.Frag)
noncomputable def tDDIn (neg : Bool) (ty td : TE) : TE := fun σ H Q => ty σ H fun y H1 => td σ H1 fun x H2 => ∃ a b xs k, x = .ref a ∧ y = .ref b ∧ H2 a = some (DkO a xs) ∧ KsOk K H2 xs ∧ L2.DV K H2 (.ref b) k.1 ∧ Q (.bl ((getX xs k).isSome != neg)) H2
noncomputable def tDDGet (td ty : TE) : TE := fun σ H Q => td σ H fun x H1 => ty σ H1 fun y H2 => ∃ a b xs k v, x = .ref a ∧ y = .ref b ∧ H2 a = some (DkO a xs) ∧ KsOk K H2 xs ∧ L2.DV K H2 (.ref b) k.1 ∧ getX xs k = some v ∧ Q v H2
noncomputable def sDDPut (td ty tv : TE) : TS := fun D σ H => tv σ H fun v H1 => td σ H1 fun x H2 => ty σ H2 fun y H3 => ∃ a b xs k, x = .ref a ∧ y = .ref b ∧ H3 a = some (DkO a xs) ∧ KsOk K H3 xs ∧ L2.DV K H3 (.ref b) k.1 ∧ xs.length < sizeLine ∧ D.nx σ (upd H3 a (DkO a (putX xs k b v)))
noncomputable def tDDGet2 (td ty tx : TE) : TE := fun σ H Q => td σ H fun x H1 => ∃ a xs0, x = .ref a ∧ H1 a = some (DkO a xs0) ∧ ty σ H1 fun y H2 => tx σ H2 fun z H3 => ∃ b xs k, y = .ref b ∧ H3 a = some (DkO a xs) ∧ KsOk K H3 xs ∧ L2.DV K H3 (.ref b) k.1 ∧ Q ((getX xs k).getD z) H3
noncomputable def tDDPop (td ty : TE) : TE := fun σ H Q => td σ H fun x H1 => ∃ a xs0, x = .ref a ∧ H1 a = some (DkO a xs0) ∧ ty σ H1 fun y H2 => ∃ b xs k v, y = .ref b ∧ H2 a = some (DkO a xs) ∧ KsOk K H2 xs ∧ L2.DV K H2 (.ref b) k.1 ∧ getX xs k = some v ∧ Q v (upd H2 a (DkO a (dropX xs k)))
noncomputable def tDDNew : TE := fun _ H Q => ∀ p, H p = none → Q (.ref p) (upd H p (DkO p []))
end
section
variable {X : Cx} {o i e f value : Expr} {td ty tx tv : TE} {pos pos' apos cpos : Pos}
theorem pc_ddin (hu : X.A.units + 64 < cLine) (hi : PE X i ty) (ho : PE X o td) : PC X .In i o (tDDIn X.K false ty td) := by
  intro pins s σ H Q I h
  refine thn (hi pins s σ H _ I h) fun iv s1 ⟨y, H1, I1, ry, q1⟩ => thn (ho pins s1 σ H1 _ I1 q1) fun u s2 ⟨x, H2, I2, rx, a, b, xs, k, ex, ey, e, ks, kb, q2⟩ => ?_
  subst ex ey
  obtain rfl : u = Value.ref a := rx
  obtain rfl : iv = Value.ref b := ry
  rw [Bool.bne_false] at q2
  exact dd_in hu I2 e ks kb fun s3 I3 => ⟨.bl _, H2, I3, rfl, q2⟩
theorem pc_ddnin (hu : X.A.units + 64 < cLine) (hi : PE X i ty) (ho : PE X o td) : PC X .NotIn i o (tDDIn X.K true ty td) := by
  intro pins s σ H Q I h
  refine thn (hi pins s σ H _ I h) fun iv s1 ⟨y, H1, I1, ry, q1⟩ => thn (ho pins s1 σ H1 _ I1 q1) fun u s2 ⟨x, H2, I2, rx, a, b, xs, k, ex, ey, e, ks, kb, q2⟩ => ?_
  subst ex ey
  obtain rfl : u = Value.ref a := rx
  obtain rfl : iv = Value.ref b := ry
  rw [Bool.bne_true] at q2
  exact dd_nin hu I2 e ks kb fun s3 I3 => ⟨.bl _, H2, I3, rfl, q2⟩
theorem pe_ddget (hu : X.A.units + 64 < cLine) (ho : PE X o td) (hi : PE X i ty) (hs : NoSl i) : PE X (.Subscript o i pos) (tDDGet X.K td ty) := by
  intro pins s σ H Q I h
  refine subD_of PySem.F.slot_dict_getitem.lookup hs (thn (ho pins s σ H _ I h) fun u s1 ⟨x, H1, I1, rx, q1⟩ => thn (hi pins s1 σ H1 _ I1 q1) fun iv s2 ⟨y, H2, I2, ry, a, b, xs, k, v, ex, ey, e, ks, kb, g, q2⟩ => ?_)
  subst ex ey
  obtain rfl : u = Value.ref a := rx
  obtain rfl : iv = Value.ref b := ry
  exact ⟨(dd_type I2 e).1, dd_get hu I2 e ks kb g fun w' s3 I3 rw' => ⟨v, H2, I3, rw', q2⟩⟩
theorem ps_ddput (hu : X.A.units + 64 < cLine) (ho : PE X o td) (hi : PE X i ty) (hv : PE X value tv) (hs : swapsWith value (some (.Subscript o i pos')) pos.line X.env = pure false) :
    PS X (.Assign [.Subscript o i pos'] value pos) (sDDPut X.K td ty tv) := by
  intro pins s σ H D I h
  refine wpAny_Assign_Subscript (thn (hv pins s σ H _ I h) fun r s1 ⟨v, H1, I1, rv, q1⟩ => thn (ho pins s1 σ H1 _ I1 q1) fun u s2 ⟨x, H2, I2, rx, q2⟩ => thn (hi pins s2 σ H2 _ I2 q2) fun iv s3 ⟨y, H3, I3, ry, a, b, xs, k, ex, ey, e, ks, kb, hl, q3⟩ => ?_) hs
  subst ex ey
  obtain rfl : u = Value.ref a := rx
  obtain rfl : iv = Value.ref b := ry
  exact dd_put hu I3 e ks kb rv hl fun s4 I4 => ⟨σ, _, I4, q3⟩
theorem pe_ddget2 (hu : X.A.units + 64 < cLine) (ho : PE X o td) (he : PE X e ty) (hf : PE X f tx) (m : M2 X o "get" apos e f cpos) : PE X (.Call (.Attribute o "get" apos) [e, f] [] cpos) (tDDGet2 X.K td ty tx) := by
  intro pins s σ H Q I h
  refine wpAny_Call_method m.base m.few m.line PySem.F.plainAttrs_dict PySem.F.slot_dict_get PySem.F.type_dict_get (thn (ho pins s σ H _ I h) fun u s1 ⟨x, H1, I1, rx, a, xs0, ex, e0, q1⟩ => ?_)
  subst ex
  obtain rfl : u = Value.ref a := rx
  obtain ⟨t1, t2, _⟩ := dd_type I1 e0
  refine ⟨t1, t2, ?_⟩
  rw [m.trees]
  refine Calls.callWith_builtin rfl (Calls.evalArgs_plain (Calls.spliced_cons (thn (he pins s1 σ H1 _ I1 q1) fun iv s2 ⟨y, H2, I2, ry, q2⟩ =>
    Calls.spliced_cons (thn (hf pins s2 σ H2 _ I2 q2) fun fv s3 ⟨z, H3, I3, rz, b, xs, k, ey, e3, ks, kb, q3⟩ => Calls.spliced_nil ?_))))
  subst ey
  obtain rfl : iv = Value.ref b := ry
  exact dd_get2 hu I3 e3 ks kb rz fun w' s4 I4 rw' => ⟨_, H3, I4, rw', q3⟩
theorem pe_ddpop (hu : X.A.units + 64 < cLine) (ho : PE X o td) (he : PE X e ty) (m : M1 X o "pop" apos e cpos) : PE X (.Call (.Attribute o "pop" apos) [e] [] cpos) (tDDPop X.K td ty) := by
  intro pins s σ H Q I h
  refine wpAny_Call_method m.base m.few m.line PySem.F.plainAttrs_dict PySem.F.slot_dict_pop PySem.F.type_dict_pop (thn (ho pins s σ H _ I h) fun u s1 ⟨x, H1, I1, rx, a, xs0, ex, e0, q1⟩ => ?_)
  subst ex
  obtain rfl : u = Value.ref a := rx
  obtain ⟨t1, t2, _⟩ := dd_type I1 e0
  refine ⟨t1, t2, ?_⟩
  rw [m.trees]
  refine Calls.callWith_builtin rfl (Calls.evalArgs_plain (Calls.spliced_cons (thn (he pins s1 σ H1 _ I1 q1) fun iv s2 ⟨y, H2, I2, ry, b, xs, k, v, ey, e2, ks, kb, g, q2⟩ => Calls.spliced_nil ?_)))
  subst ey
  obtain rfl : iv = Value.ref b := ry
  exact dd_pop hu I2 e2 ks kb g fun w' s3 I3 rw' => ⟨v, _, I3, rw', q2⟩
theorem pe_ddnew : PE X (.Dict [] [] pos) tDDNew := fun pins s σ H Q I h =>
  wpAny_Dict_empty ⟨.ref s.heap.objs.size, _, I.laid (a := s.heap.objs.size) (o := DkO s.heap.objs.size []) (t' := s.toks) (fun _ _ q => Heap.get?_push_of_some _ q) (Nat.le_refl _) (dd_new (Nat.zero_le _) (beq_eq_false_iff_ne.mpr (Ne.symm (Nat.ne_of_lt I.big))) .nil (Heap.DictOfH.new s.heap)), rfl, h _ (I.hok.fresh (Nat.le_refl _))⟩
end
end LD
namespace LD
open PySem PyProof.Rows L2 L3
mutual
noncomputable def ltd : PyData → PyData → Option Bool
  | .int i, .int j => some (decide (i < j))
  | .str x, .str y => some (decide (x.cps.toList < y.cps.toList))
  | .tuple xs, .tuple ys => ltds xs ys
  | _, _ => none
noncomputable def ltds : List PyData → List PyData → Option Bool
  | [], [] => some false
  | [], _ :: _ => some true
  | _ :: _, [] => some false
  | x :: xs, y :: ys => if PyData.eqv x y = true then ltds xs ys else ltd x y
end
section
variable {prog : Program} {w : World} {E : Value → Shared → Prop}
theorem lt_ok : ∀ (n : Nat) (x y : PyData) (u v : Value) (as bs : List Addr) (A : Around) (s : Shared) (Q : Value → Shared → Prop) (r : Bool), x.depth ≤ n → y.depth ≤ n → x.canLay0 = true → y.canLay0 = true → Reads s.heap u x as → Reads s.heap v y bs → A.units + n < cLine → ltd x y = some r → Q (.bool r) s → wpAny (model prog w) A (richCompare .Lt u v) Q E s
  | n, .int i, .int j, _, _, _, _, A, s, Q, r, _, _, _, _, ru, rv, _, e, h => by
    cases ru; cases rv
    rw [ltd] at e; cases e
    exact richCompare_gives (op := .Lt) (typeIs_int s _ _) (typeIs_int s _ _) F.slot_int_lt F.entry_int_lt (F.args_int_lt_2 _ _) (gives_int_lt _ _ _ _) (fun x => nomatch x) h
  | n, .str i, .str j, _, _, _, _, A, s, Q, r, _, _, _, _, ru, rv, _, e, h => by
    cases ru; cases rv
    rw [ltd] at e; cases e
    exact richCompare_gives (op := .Lt) (typeIs_str s _ _) (typeIs_str s _ _) F.slot_str_lt F.entry_str_lt (F.args_str_lt_2 _ _) (gives_str_lt _ _ _ _) (fun x => nomatch x) h
  | 0, .tuple xs, _, _, _, _, _, A, s, Q, r, hx, _, _, _, _, _, _, _, _ => by simp only [PyData.depth] at hx; omega
  | n + 1, .tuple xs, .tuple ys, _, _, _, _, A, s, Q, r, hx, hy, lx, ly, ru, rv, hu, e, h => by
    cases ru with
    | @tuple a oa va na _ _ a1 a2 a3 a4 =>
    cases rv with
    | @tuple b ob vb nb _ _ b1 b2 b3 b4 =>
      have hTa : s.TypeIs (.ref a) "tuple" := ⟨_, a1, a2⟩
      have hTb : s.TypeIs (.ref b) "tuple" := ⟨_, b1, b2⟩
      rw [ltd] at e
      simp only [PyData.depth] at hx hy
      unfold PyData.canLay0 at lx ly
      refine wpAny_richCompare_same_room (op := .Lt) hTa hTb F.slot_tuple_lt (wpAny_call_entry F.slot_tuple_lt hTa F.entry_tuple_lt ?_ (F.args_tuple_lt_2 _ _)) (by omega)
      show wpAny _ _ (isInstance (.ref b) (.type "tuple") >>= _) _ _ s
      refine wpAny_bind (wpAny_isInstance hTb isSubtype_tuple_tuple ?_)
      simp only [Bool.not_true, Bool.false_eq_true, if_false]
      refine wpAny_bind (wpAny_tupleItemsOf a1 a3 ?_)
      refine wpAny_bind (wpAny_tupleItemsOf b1 b3 ?_)
      refine wpAny_bind ?_
      have la : va.size = xs.length := by have := SeqAt.ReadsAll.length _ _ _ a4; rw [Array.length_toList] at this; exact this
      have lb : vb.size = ys.length := by have := SeqAt.ReadsAll.length _ _ _ b4; rw [Array.length_toList] at this; exact this
      refine wpAny_forIn_list _
        (fun rest q s' => q.1 = none ∧ s' = s ∧ ∃ x' y' xs' ys' cs ds, rest = List.zip xs' ys' ∧ ReadsAll s.heap xs' x' cs ∧ ReadsAll s.heap ys' y' ds ∧ PyData.depthAll x' ≤ n ∧ PyData.depthAll y' ≤ n ∧ PyData.canLayAll0 x' = true ∧ PyData.canLayAll0 y' = true ∧ ltds x' y' = ltds xs ys ∧ (x'.length < y'.length ↔ xs.length < ys.length))
        _ ?_ ?_ _ _ ⟨rfl, rfl, xs, ys, _, _, _, _, rfl, a4, b4, by omega, by omega, lx, ly, rfl, Iff.rfl⟩
      · rintro ⟨p, q⟩ rest r' s' ⟨hr, rfl, x', y', xs', ys', cs, ds, hz, hx', hy', dx, dy, cx, cy, hl, hlen⟩
        cases hx' with
        | nil => simp at hz
        | @cons p' ps k1 x'' c1 c2 h1 hx'' =>
          cases hy' with
          | nil => simp at hz
          | @cons q' qs k2 y'' d1 d2 h2 hy'' =>
            simp only [List.zip_cons_cons, List.cons.injEq, Prod.mk.injEq] at hz
            obtain ⟨⟨rfl, rfl⟩, rfl⟩ := hz
            simp only [PyData.depthAll] at dx dy
            unfold PyData.canLayAll0 at cx cy
            rw [Bool.and_eq_true] at cx cy
            refine wpAny_bind (SeqAt.eqAt_reads k1 k2 A.in1 s' p q _ _ h1 h2 cx.1 cy.1 (by rw [Around.in1_units]; omega) prog w _ _ ?_)
            rw [ltds] at hl
            cases z : PyData.eqv k1 k2 with
            | true =>
              rw [if_pos z] at hl
              simp only [Bool.not_true, Bool.false_eq_true, if_false]
              refine wpAny_pure ⟨rfl, rfl, x'', y'', ps, qs, _, _, rfl, hx'', hy'', by omega, by omega, cx.2, cy.2, hl, ?_⟩
              rw [← hlen, List.length_cons, List.length_cons]; omega
            | false =>
              rw [if_neg (by rw [z]; simp)] at hl
              simp only [Bool.not_false, if_true]
              refine wpAny_bind (wpAny_rule (wpAny_bind (lt_ok n k1 k2 p q _ _ A.in1 s' _ r (by omega) (by omega) cx.1 cy.1 h1 h2 (by rw [Around.in1_units]; omega) (hl.trans e) ?_)))
              exact wpAny_bind (wpAny_pure (wpAny_pure (wpAny_pure ⟨_, rfl, (fun x => nomatch x), h⟩)))
      · rintro ⟨r1, r2⟩ s' ⟨hr, rfl, x', y', xs', ys', cs, ds, hz, hx', hy', dx, dy, cx, cy, hl, hlen⟩
        simp only at hr
        subst hr
        refine wpAny_pure ⟨_, rfl, (fun x => nomatch x), ?_⟩
        have er : r = decide (xs.length < ys.length) := by
          have : ltds x' y' = some (decide (x'.length < y'.length)) := by
            cases hx' with
            | nil => cases hy' <;> simp [ltds]
            | cons _ _ =>
              cases hy' with
              | nil => simp [ltds]
              | cons _ _ => simp at hz
          rw [← hl, this] at e
          cases e
          exact decide_eq_decide.mpr hlen
        rw [er] at h
        rw [la, lb]
        exact h
  | _, .none, _, _, _, _, _, _, _, _, _, _, _, _, _, _, _, _, e, _ | _, .bool _, _, _, _, _, _, _, _, _, _, _, _, _, _, _, _, _, e, _ | _, .list _, _, _, _, _, _, _, _, _, _, _, _, _, _, _, _, _, e, _ | _, .dict _, _, _, _, _, _, _, _, _, _, _, _, _, _, _, _, _, e, _ => by simp [ltd] at e
  | _, .int _, .none, _, _, _, _, _, _, _, _, _, _, _, _, _, _, _, e, _ | _, .int _, .bool _, _, _, _, _, _, _, _, _, _, _, _, _, _, _, _, e, _ | _, .int _, .str _, _, _, _, _, _, _, _, _, _, _, _, _, _, _, _, e, _ | _, .int _, .list _, _, _, _, _, _, _, _, _, _, _, _, _, _, _, _, e, _ | _, .int _, .tuple _, _, _, _, _, _, _, _, _, _, _, _, _, _, _, _, e, _ | _, .int _, .dict _, _, _, _, _, _, _, _, _, _, _, _, _, _, _, _, e, _ => by simp [ltd] at e
  | _, .str _, .none, _, _, _, _, _, _, _, _, _, _, _, _, _, _, _, e, _ | _, .str _, .bool _, _, _, _, _, _, _, _, _, _, _, _, _, _, _, _, e, _ | _, .str _, .int _, _, _, _, _, _, _, _, _, _, _, _, _, _, _, _, e, _ | _, .str _, .list _, _, _, _, _, _, _, _, _, _, _, _, _, _, _, _, e, _ | _, .str _, .tuple _, _, _, _, _, _, _, _, _, _, _, _, _, _, _, _, e, _ | _, .str _, .dict _, _, _, _, _, _, _, _, _, _, _, _, _, _, _, _, e, _ => by simp [ltd] at e
  | _, .tuple _, .none, _, _, _, _, _, _, _, _, _, _, _, _, _, _, _, e, _ | _, .tuple _, .bool _, _, _, _, _, _, _, _, _, _, _, _, _, _, _, _, e, _ | _, .tuple _, .int _, _, _, _, _, _, _, _, _, _, _, _, _, _, _, _, e, _ | _, .tuple _, .str _, _, _, _, _, _, _, _, _, _, _, _, _, _, _, _, e, _ | _, .tuple _, .list _, _, _, _, _, _, _, _, _, _, _, _, _, _, _, _, e, _ | _, .tuple _, .dict _, _, _, _, _, _, _, _, _, _, _, _, _, _, _, _, e, _ => by simp [ltd] at e
end
end LD
namespace LD
open PySem PyProof.Rows
structure VE (es : List DictEntry) (kvs : List (Unit × Value)) : Prop where
  vals : es.map (·.val) = kvs.map (·.2)
theorem VE.length {es : List DictEntry} {kvs : List (Unit × Value)} (h : VE es kvs) : es.length = kvs.length := by
  have := congrArg List.length h.vals
  rw [List.length_map, List.length_map] at this
  exact this
theorem VE.get? {es : List DictEntry} {kvs : List (Unit × Value)} (h : VE es kvs) {i : Nat} {e : DictEntry} {k : Unit} {v : Value} (he : es[i]? = some e) (hx : kvs[i]? = some (k, v)) : True ∧ e.val = v := by
  have := congrArg (fun l => l[i]?) h.vals
  simp only [List.getElem?_map, he, hx, Option.map_some, Option.some.injEq] at this
  exact ⟨trivial, this⟩
noncomputable def RawAt (h : Heap) (d : Addr) (kvs : List (Unit × Value)) (ep : Nat) : Prop := ∃ o es, h.get? d = some o ∧ o.ExactDict ∧ o.data = .dict es ep ∧ True ∧ VE es.toList kvs ∧ True
theorem RawAt.at' {h h' : Heap} {a : Addr} {kvs : List (Unit × Value)} {ep : Nat} (x : RawAt h a kvs ep) (e : ∀ o, h.get? a = some o → h'.get? a = some o) : RawAt h' a kvs ep := let ⟨o, es, ho, r⟩ := x; ⟨o, es, e _ ho, r⟩
noncomputable def Kp (h0 h : Heap) : Prop := ∀ b o, h0.get? b = some o → h.get? b = some o
theorem Kp.step {h0 h h' : Heap} {wr : List Addr} (hw : ∀ b ∈ wr, h0.get? b = none) (k : Kp h0 h) (hk : ∀ b o, b ∉ wr → h.get? b = some o → h'.get? b = some o) : Kp h0 h' := fun b o e => hk b o (fun m => by rw [hw b m] at e; cases e) (k b o e)
theorem Kp.upd {h0 h : Heap} {S : Addr} {f : Obj → Obj} (hS : h0.get? S = none) (k : Kp h0 h) : Kp h0 (h.update S f) := fun b o e => (Heap.get?_update_other _ _ (fun z : S = b => by rw [z, e] at hS; cases hS)).trans (k b o e)
noncomputable def CmpK (prog : Program) (w : World) (A : Around) (h0 : Heap) (P : Nat → Value → Prop) (bt : Nat → Nat → Bool) : Prop :=
  ∀ i j vi vj (s : Shared) (Q : Value → Shared → Prop) (E : Value → Shared → Prop), P i vi → P j vj → Kp h0 s.heap → Q (.bool (bt i j)) s → wpAny (model prog w) A (richCompare .Lt vi vj) Q E s
section
variable {prog : Program} {w : World} {A : Around} {E : Value → Shared → Prop} {s : Shared}
theorem raw_pyIter_values {v d : Addr} {kvs : List (Unit × Value)} {ep : Nat} {Q : Value → Shared → Prop} (hv : s.heap.IsValuesView v d) (hm : RawAt s.heap d kvs ep)
    (hQ : Q (.ref s.heap.objs.size) { s with heap := s.heap.push { cls := .type "dict_valueiterator", data := .fields #[.ref d, .int 0 0, .int kvs.length 0, .int ep 0] } }) :
    wpAny (model prog w) A (pyIter (.ref v)) Q E s := by
  obtain ⟨ov, hov, hcv, hdv⟩ := id hv
  obtain ⟨o, es, ho, hc, hdat, hk, hp, hn⟩ := id hm
  refine wpAny_pyIter_slot hv.typeIs F.slot_dict_values_iter (wpAny_call_entry F.slot_dict_values_iter hv.typeIs F.entry_dict_values_iter ?_ (F.args_dict_values_iter_1 _))
  unfold Builtin.«dict_values.__iter__»
  refine wpAny_bind (wpAny_pure ?_)
  refine wpAny_bind ?_
  unfold Builtin.Dict_items.dictOf
  refine wpAny_bind (wpAny_field hov hdv (x := .ref d) rfl (wpAny_pure ?_))
  refine wpAny_bind ?_
  unfold Builtin.Dict_items.newIterator
  refine wpAny_bind (wpAny_dictEntries ho hdat ?_)
  refine wpAny_bind (wpAny_dictEpoch ho hdat ?_)
  have hsz : es.size = kvs.length := by rw [← hp.length]; simp
  have hown : Builtin.Dict_items.ownsTuple "dict_valueiterator" = false := by decide
  simp only [hown, Bool.false_eq_true, if_false]
  refine wpAny_newObj_type (wpAny_pure ⟨_, rfl, "dict_valueiterator", _, ⟨_, Heap.get?_push_size _ rfl, rfl⟩, F.slot_dict_valueiterator_next.lookup, ?_⟩)
  simpa [rawInt, hsz] using hQ
theorem raw_pyNext_values_item {it d : Addr} {i ep : Nat} {kvs : List (Unit × Value)} {k : Unit} {v : Value} {Q : Option Value → Shared → Prop} (hit : s.heap.IsValIter it d i kvs.length ep)
    (hm : RawAt s.heap d kvs ep) (hx : kvs[i]? = some (k, v))
    (hQ : ∀ h', h'.IsValIter it d (i + 1) kvs.length ep → Heap.SameBut it s.heap h' → Q (some v) { s with heap := h' }) :
    wpAny (model prog w) A (pyNext (.ref it)) Q E s := by
  obtain ⟨o, ho, hc, hd⟩ := id hit
  obtain ⟨od, es, hod, hcd, hdd, hk, hp, hn⟩ := id hm
  unfold pyNext
  refine wpAny_bind (wpAny_attempt (wpAny_callSpecial?_slot (name := Str.ofString "__next__") hit.typeIs F.slot_dict_valueiterator_next
    (wpAny_call_entry F.slot_dict_valueiterator_next hit.typeIs F.entry_dict_valueiterator_next ?_ (F.args_dict_valueiterator_next_1 _))))
  refine wpAny_bind (wpAny_pure ?_)
  refine wpAny_bind ?_
  refine wpAny_bind ?_
  first | refine wpAny_bind (wpAny_typeNameOfWhole_valiter hit.typeIs (wpAny_pure ?_)) | refine wpAny_bind (wpAny_typeNameOf_valiter hit.typeIs (wpAny_pure ?_))
  refine wpAny_bind (wpAny_fieldsOf ho hd ?_)
  have hown : Builtin.Dict_items.ownsTuple "dict_valueiterator" = false := by decide
  simp only [hown, Bool.false_eq_true, if_false]
  show wpAny _ _ (if (Value.ref d == Value.none) = true then _ else _) _ _ s
  rw [if_neg (show ¬ ((Value.ref d == Value.none) = true) from Bool.false_ne_true)]
  refine wpAny_bind (wpAny_pure ?_)
  refine wpAny_bind (wpAny_dictEntries hod hdd ?_)
  have hsz : es.size = kvs.length := by rw [← hp.length]; simp
  rw [if_neg (by rw [hsz]; simp)]
  refine wpAny_bind (wpAny_pure ?_)
  refine wpAny_bind (wpAny_dictEpoch hod hdd ?_)
  rw [if_neg (by simp)]
  refine wpAny_pure ?_
  have hlt : i < kvs.length := by
    rcases Nat.lt_or_ge i kvs.length with h | h
    · exact h
    · simp [List.getElem?_eq_none h] at hx
  have hlt' : i < es.size := by rw [hsz]; exact hlt
  have hval : es[i].val = v := (hp.get? (e := es[i]) (by simp [hlt']) hx).2
  simp only [show ¬ ((i : Int) < 0) from by omega, if_false, Int.toNat_natCast, Array.getElem?_eq_getElem hlt']
  refine wpAny_bind ?_
  first | refine wpAny_bind (wpAny_typeNameOfWhole_valiter hit.typeIs (wpAny_pure ?_)) | refine wpAny_bind (wpAny_typeNameOf_valiter hit.typeIs (wpAny_pure ?_))
  refine wpAny_bind (wpAny_isOneOf_valiter hit.typeIs ?_)
  show wpAny _ _ (setField (.ref it) 1 (rawInt ((i : Int) + 1)) >>= _) _ _ s
  refine wpAny_bind (wpAny_setField ho hd (by simp) ?_)
  have hit' : (s.heap.update it (Obj.mapFields (·.setIfInBounds 1 (rawInt ((i : Int) + 1))))).IsValIter it d (i + 1) kvs.length ep :=
    ⟨_, Heap.get?_update_self _ ho (Obj.isFreed_of_fields (Obj.data_mapFields hd _)), (Obj.cls_mapFields ..).trans hc, by rw [Obj.data_mapFields hd]; simp [rawInt]⟩
  refine wpAny_bind (wpAny_holding ?_)
  refine wpAny_bind (wpAny_isOneOf_valiter (s := { s with heap := s.heap.update it (Obj.mapFields (·.setIfInBounds 1 (rawInt ((i : Int) + 1)))) }) hit'.typeIs ?_)
  refine wpAny_bind (wpAny_isOneOf_valiter (s := { s with heap := s.heap.update it (Obj.mapFields (·.setIfInBounds 1 (rawInt ((i : Int) + 1)))) }) hit'.typeIs ?_)
  show wpAny _ _ (pure es[i].val) _ _ _
  exact wpAny_pure (wpAny_pure ⟨_, rfl, wpAny_pure (hval ▸ hQ _ hit' (Heap.SameBut.update ..))⟩)
theorem raw_pyNext_values_end {it d : Addr} {i ep : Nat} {kvs : List (Unit × Value)} {Q : Option Value → Shared → Prop} (hh : A.handled = none) (hit : s.heap.IsValIter it d i kvs.length ep)
    (hm : RawAt s.heap d kvs ep) (hx : kvs[i]? = none)
    (hQ : ∀ h', Heap.ExtBut it s.heap h' → Q none { s with heap := h' }) : wpAny (model prog w) A (pyNext (.ref it)) Q E s := by
  obtain ⟨o, ho, hc, hd⟩ := id hit
  obtain ⟨od, es, hod, hcd, hdd, hk, hp, hn⟩ := id hm
  unfold pyNext
  refine wpAny_bind (wpAny_attempt (wpAny_callSpecial?_slot (name := Str.ofString "__next__") hit.typeIs F.slot_dict_valueiterator_next
    (wpAny_call_entry F.slot_dict_valueiterator_next hit.typeIs F.entry_dict_valueiterator_next ?_ (F.args_dict_valueiterator_next_1 _))))
  refine wpAny_bind (wpAny_pure ?_)
  refine wpAny_bind ?_
  refine wpAny_bind ?_
  first | refine wpAny_bind (wpAny_typeNameOfWhole_valiter hit.typeIs (wpAny_pure ?_)) | refine wpAny_bind (wpAny_typeNameOf_valiter hit.typeIs (wpAny_pure ?_))
  refine wpAny_bind (wpAny_fieldsOf ho hd ?_)
  have hown : Builtin.Dict_items.ownsTuple "dict_valueiterator" = false := by decide
  simp only [hown, Bool.false_eq_true, if_false]
  show wpAny _ _ (if (Value.ref d == Value.none) = true then _ else _) _ _ s
  rw [if_neg (show ¬ ((Value.ref d == Value.none) = true) from Bool.false_ne_true)]
  refine wpAny_bind (wpAny_pure ?_)
  refine wpAny_bind (wpAny_dictEntries hod hdd ?_)
  have hsz : es.size = kvs.length := by rw [← hp.length]; simp
  rw [if_neg (by rw [hsz]; simp)]
  refine wpAny_bind (wpAny_pure ?_)
  refine wpAny_bind (wpAny_dictEpoch hod hdd ?_)
  rw [if_neg (by simp)]
  refine wpAny_pure ?_
  have hge : es.size ≤ i := by rw [hsz]; simpa using hx
  simp only [show ¬ ((i : Int) < 0) from by omega, if_false, Int.toNat_natCast, Array.getElem?_eq_none hge]
  refine wpAny_bind ?_
  first | refine wpAny_bind (wpAny_typeNameOfWhole_valiter hit.typeIs (wpAny_pure ?_)) | refine wpAny_bind (wpAny_typeNameOf_valiter hit.typeIs (wpAny_pure ?_))
  show wpAny _ _ (setField (.ref it) 0 .none >>= _) _ _ s
  refine wpAny_bind (wpAny_setField ho hd (by simp) ?_)
  show wpAny _ _ (newExc (.type "StopIteration") [] >>= _) _ _ _
  refine wpAny_bind ?_
  simp only [newExc, newTuple]
  refine wpAny_bind (wpAny_newObj_type ?_ (by size_fits))
  refine wpAny_bind (m := firstArgMember _ _) (wpAny_of_eq (a := Value.none) (by first | rfl | (simp only [firstArgMember]; rfl)) ?_)
  refine wpAny_newObj_type ?_ (by size_fits)
  simp only [raiseNew]
  refine wpAny_bind (wpAny_handled ?_)
  rw [show A.in1.handled = none from hh]
  refine wpAny_bind (wpAny_pure (wpAny_throw ?_))
  refine wpAny_bind (wpAny_isInstance (T := "StopIteration") (b := true) ⟨_, Heap.get?_push_size _ rfl, rfl⟩ isSubtype_stop ?_)
  exact wpAny_pure (hQ _ (((Heap.SameBut.update ..).extBut.push _).push _))
theorem raw_walks (hh : A.handled = none) (I d : Addr) (hne : d ≠ I) (kvs : List (Unit × Value)) (ep : Nat) :
    Walks prog w A I [I, d] [I] kvs.length (fun i v => ∃ k, kvs[i]? = some (k, v)) (fun i h => h.IsValIter I d i kvs.length ep ∧ RawAt h d kvs ep) where
  sub := fun b hb => by simp at hb; simp [hb]
  frame := fun _ _ _ st hk => ⟨st.1.at fun o e => hk I (by simp) o e, st.2.at' fun o e => hk d (by simp) o e⟩
  item := fun i s Q E hi st hQ => by
    obtain ⟨⟨k, x⟩, hx⟩ : ∃ p, kvs[i]? = some p := ⟨kvs[i], by simp [hi]⟩
    refine raw_pyNext_values_item st.1 st.2 hx fun h' hit' hs' => ?_
    exact hQ x h' s.toks ⟨k, hx⟩ ⟨hit', st.2.at' fun o e => hs'.extBut d o hne e⟩ fun b o hb e => hs'.extBut b o (fun h => hb (by simp [h])) e
  done := fun s Q E st hQ => raw_pyNext_values_end hh st.1 st.2 (by simp) fun h' he' => hQ h' s.toks fun b o hb e => he' b o (fun h => hb (by simp [h])) e
  self := fun _ _ _ _ st hQ => wpAny_pyIter_valiter st.1 hQ
end
section
variable {prog : Program} {w : World} {A : Around} {R : Result → Shared → Prop} {I : Addr} {fp wr : List Addr} {n : Nat} {P : Nat → Value → Prop} {St : Nat → Heap → Prop}
theorem raw_min_loop (W : Walks prog w A.in1 I fp wr n P St) (bt : Nat → Nat → Bool) {h0 : Heap} (hcmp : CmpK prog w A.in1 h0 P bt) (hwn : ∀ b ∈ wr, h0.get? b = none) (S : Addr) (hSn : h0.get? S = none) (hSf : S ∉ fp) :
    ∀ (k j : Nat) (s : Shared) (vb : Value) (c : Nat), n - (j + 1) = k → j + 1 ≤ n → St (j + 1) s.heap → P (argBest bt j) vb → Kp h0 s.heap →
    s.heap.get? S = some { cls := .type "list", dict := none, data := .seq #[vb, vb] c, slots := #[] } →
    (∀ v h' tk, P (argBest bt (n - 1)) v → (∀ b o, b ∉ wr → b ≠ S → s.heap.get? b = some o → h'.get? b = some o) → R (.ok (.ret v)) { s with heap := h', toks := tk }) →
    codeAny (model prog w) A (.builtin "min.loop" ⟨[.ref I, .none, .ref S], []⟩) R s := by
  have hSw : S ∉ wr := fun h => hSf (W.sub _ h)
  have hname : (toString "min" ++ toString ".loop" : String) = "min.loop" := by decide
  intro k
  induction k with
  | zero =>
    intro j s vb c hk hj hst hPb hk0 hS hR
    have hin : j + 1 = n := by omega
    refine codeAny_builtin F.entry_min_loop ?_
    rw [Around.under_plainId F.plain_min_loop _]
    show wpAny _ A.in1 (seqItems? (.ref S) >>= _) _ _ s
    refine wpAny_bind (wpAny_seqItems hS rfl ?_)
    show wpAny _ A.in1 (tryCatch (pyNext (.ref I)) _ >>= _) _ _ s
    refine wpAny_bind (wpAny_tryCatch (W.done s _ _ (hin ▸ hst) fun h' tk hk' => ?_))
    have hS' := hk' S _ hSw hS
    show wpAny _ A.in1 (updateSeq S (fun _ => #[]) >>= _) _ _ _
    refine wpAny_bind ?_
    refine wpAny_updateSeq hS' rfl (wpAny_bind (wpAny_letGo (wpAny_pure ?_)))
    refine hR vb _ tk (by rw [← hin]; exact hPb) fun b o hbw hbS e => (Heap.get?_update_other _ _ (Ne.symm hbS)).trans (hk' b o hbw e)
  | succ k ih =>
    intro j s vb c hk hj hst hPb hk0 hS hR
    have hlt : j + 1 < n := by omega
    refine codeAny_builtin F.entry_min_loop ?_
    rw [Around.under_plainId F.plain_min_loop _]
    show wpAny _ A.in1 (seqItems? (.ref S) >>= _) _ _ s
    refine wpAny_bind (wpAny_seqItems hS rfl ?_)
    show wpAny _ A.in1 (tryCatch (pyNext (.ref I)) _ >>= _) _ _ s
    refine wpAny_bind (wpAny_tryCatch (W.item (j + 1) s _ _ hlt hst fun v h' tk hP hst' hk' => ?_))
    have hS' := hk' S _ hSw hS
    show wpAny _ A.in1 (tryCatch (holding [v, v] (richCompare .Lt v vb >>= _)) _ >>= _) _ _ _
    refine wpAny_bind (wpAny_tryCatch (wpAny_holding (wpAny_bind (hcmp (j + 1) (argBest bt j) v vb _ _ _ hP hPb (Kp.step hwn hk0 hk') ?_))))
    refine wpAny_bind (wpAny_holding (wpAny_truthy_bool ?_))
    refine wpAny_bind (wpAny_letGo (wpAny_pure ?_))
    cases hb : bt (j + 1) (argBest bt j) with
    | true =>
      simp only [if_true]
      refine wpAny_bind ?_
      refine wpAny_updateSeq hS' rfl (wpAny_bind (wpAny_letGo ?_))
      rw [hname]
      refine wpAny_pure ⟨plainId_quiet F.plain_min_loop _, ih (j + 1) _ v _ (by omega) hlt (W.frame _ _ _ hst' fun b hbf o e => ?_) (by simp only [argBest, hb, if_true]; exact hP) (Kp.upd hSn (Kp.step hwn hk0 hk')) (Heap.get?_update_self _ hS' rfl)
        fun v' h'' tk'' hP' hk'' => ?_⟩
      · exact (Heap.get?_update_other _ _ (fun h : S = b => hSf (by rw [h]; exact hbf))).trans e
      · exact hR v' h'' tk'' hP' fun b o hbw hbS e => hk'' b o hbw hbS ((Heap.get?_update_other _ _ (Ne.symm hbS)).trans (hk' b o hbw e))
    | false =>
      simp only [Bool.false_eq_true, if_false]
      refine wpAny_bind (wpAny_letGo ?_)
      rw [hname]
      refine wpAny_pure ⟨plainId_quiet F.plain_min_loop _, ih (j + 1) _ vb c (by omega) hlt hst' (by simp only [argBest, hb, Bool.false_eq_true, if_false]; exact hPb) (Kp.step hwn hk0 hk') hS' fun v' h'' tk'' hP' hk'' => ?_⟩
      exact hR v' h'' tk'' hP' fun b o hbw hbS e => hk'' b o hbw hbS (hk' b o hbw e)
theorem raw_min_loop_first (W : Walks prog w A.in1 I fp wr n P St) (bt : Nat → Nat → Bool) {h0 : Heap} (hcmp : CmpK prog w A.in1 h0 P bt) (hwn : ∀ b ∈ wr, h0.get? b = none) (S : Addr) (hSn : h0.get? S = none) (hSf : S ∉ fp) (hn : 0 < n) {s : Shared} {c : Nat} (hst : St 0 s.heap) (hk0 : Kp h0 s.heap)
    (hS : s.heap.get? S = some { cls := .type "list", dict := none, data := .seq #[] c, slots := #[] })
    (hR : ∀ v h' tk, P (argBest bt (n - 1)) v → (∀ b o, b ∉ wr → b ≠ S → s.heap.get? b = some o → h'.get? b = some o) → R (.ok (.ret v)) { s with heap := h', toks := tk }) :
    codeAny (model prog w) A (.builtin "min.loop" ⟨[.ref I, .none, .ref S], []⟩) R s := by
  have hSw : S ∉ wr := fun h => hSf (W.sub _ h)
  have hname : (toString "min" ++ toString ".loop" : String) = "min.loop" := by decide
  refine codeAny_builtin F.entry_min_loop ?_
  rw [Around.under_plainId F.plain_min_loop _]
  show wpAny _ A.in1 (seqItems? (.ref S) >>= _) _ _ s
  refine wpAny_bind (wpAny_seqItems hS rfl ?_)
  show wpAny _ A.in1 (tryCatch (pyNext (.ref I)) _ >>= _) _ _ s
  refine wpAny_bind (wpAny_tryCatch (W.item 0 s _ _ hn hst fun v h' tk hP hst' hk' => ?_))
  have hS' := hk' S _ hSw hS
  show wpAny _ A.in1 (updateSeq S (fun _ => #[v, v]) >>= _) _ _ _
  refine wpAny_bind ?_
  refine wpAny_updateSeq hS' rfl ?_
  rw [hname]
  refine wpAny_pure ⟨plainId_quiet F.plain_min_loop _, raw_min_loop W bt hcmp hwn S hSn hSf _ 0 _ v _ rfl hn (W.frame _ _ _ hst' fun b hbf o e => ?_) hP (Kp.upd hSn (Kp.step hwn hk0 hk')) (Heap.get?_update_self _ hS' rfl) fun v' h'' tk'' hP' hk'' => ?_⟩
  · exact (Heap.get?_update_other _ _ (fun h : S = b => hSf (by rw [h]; exact hbf))).trans e
  · exact hR v' h'' tk'' hP' fun b o hbw hbS e => hk'' b o hbw hbS ((Heap.get?_update_other _ _ (Ne.symm hbS)).trans (hk' b o hbw e))
end
section
variable {prog : Program} {w : World} {A : Around} {E : Value → Shared → Prop} {s : Shared}
theorem fresh_kp {h0 h : Heap} (k : Kp h0 h) : h0.get? h.objs.size = none := by
  cases q : h0.get? h.objs.size with
  | none => rfl
  | some o => exact absurd (Heap.lt_size (k _ _ q)) (Nat.lt_irrefl _)
theorem raw_min_walk {x : Value} {Q : Value → Shared → Prop}
    (h : wpAny (model prog w) A.in1 (pyIter x) (fun it s₂ => ∃ I fp wr n P St bt h0, it = .ref I ∧ Walks prog w A.in1 I fp wr n P St ∧ St 0 s₂.heap ∧ (∀ b ∈ fp, b < s₂.heap.objs.size) ∧ 0 < n ∧ CmpK prog w A.in1 h0 P bt ∧ Kp h0 s₂.heap ∧ (∀ b ∈ wr, h0.get? b = none) ∧
      ∀ v h' tk, P (argBest bt (n - 1)) v → (∀ b o, b ∉ wr → s₂.heap.get? b = some o → h'.get? b = some o) → Q v { s₂ with heap := h', toks := tk }) E s) :
    wpAny (model prog w) A (call (.builtin "min") [x]) Q E s := by
  have hname : (toString "min" ++ toString ".loop" : String) = "min.loop" := by decide
  refine call_function_tree F.kind_min F.plain_min F.entry_min (F.args_min1 _) ?_
  show wpAny _ A.in1 (Builtin.Builtins.bindParams "min" ["key", "default"] 0 ⟨[], []⟩ >>= _) _ _ s
  refine wpAny_bind (wpAny_of_eq (show Builtin.Builtins.bindParams "min" ["key", "default"] 0 ⟨[], []⟩ = pure [none, none] from rfl) ?_)
  refine wpAny_bind (wpAny_pure ?_)
  refine wpAny_bind (wpAny_mono h (fun it s₂ h₂ => ?_) fun _ _ e => e)
  obtain ⟨I, fp, wr, n, P, St, bt, h0, rfl, W, hst, hfp, hn, hcmp, hk0, hwn, hQ⟩ := h₂
  refine wpAny_bind (wpAny_newObj_type ?_)
  have hSf : s₂.heap.objs.size ∉ fp := fun hm => Nat.lt_irrefl _ (hfp _ hm)
  rw [hname]
  refine wpAny_pure ⟨plainId_quiet F.plain_min_loop _, raw_min_loop_first W bt hcmp hwn s₂.heap.objs.size (fresh_kp hk0) hSf hn (W.frame _ _ _ hst fun b _ o e => Heap.get?_push_of_some _ e) (fun b o e => Heap.get?_push_of_some _ (hk0 b o e)) (Heap.get?_push_size _ rfl) fun v h' tk hP hk => ?_⟩
  exact hQ v h' tk hP fun b o hbw e => hk b o hbw (Nat.ne_of_lt (Heap.lt_size e)) (Heap.get?_push_of_some _ e)
theorem raw_min_two {a b : Value} {Q : Value → Shared → Prop}
    (h : wpAny (model prog w) A.in1 (pyIter (.ref s.heap.objs.size)) (fun it s₂ => ∃ I fp wr n P St bt h0, it = .ref I ∧ Walks prog w A.in1 I fp wr n P St ∧ St 0 s₂.heap ∧ (∀ b ∈ fp, b < s₂.heap.objs.size) ∧ 0 < n ∧ CmpK prog w A.in1 h0 P bt ∧ Kp h0 s₂.heap ∧ (∀ b ∈ wr, h0.get? b = none) ∧
      ∀ v h' tk, P (argBest bt (n - 1)) v → (∀ b o, b ∉ wr → s₂.heap.get? b = some o → h'.get? b = some o) → Q v { s₂ with heap := h', toks := tk }) E
      { s with heap := s.heap.push { cls := .type "tuple", data := .seq #[a, b] } }) :
    wpAny (model prog w) A (call (.builtin "min") [a, b]) Q E s := by
  have hname : (toString "min" ++ toString ".loop" : String) = "min.loop" := by decide
  refine call_function_tree F.kind_min F.plain_min F.entry_min (F.args_min2 _ _) ?_
  show wpAny _ A.in1 (Builtin.Builtins.bindParams "min" ["key", "default"] 0 ⟨[], []⟩ >>= _) _ _ s
  refine wpAny_bind (wpAny_of_eq (show Builtin.Builtins.bindParams "min" ["key", "default"] 0 ⟨[], []⟩ = pure [none, none] from rfl) ?_)
  show wpAny _ A.in1 (newTuple [a, b] >>= _) _ _ s
  refine wpAny_bind (wpAny_newObj_type ?_)
  refine wpAny_bind (wpAny_mono h (fun it s₂ h₂ => ?_) fun _ _ e => e)
  obtain ⟨I, fp, wr, n, P, St, bt, h0, rfl, W, hst, hfp, hn, hcmp, hk0, hwn, hQ⟩ := h₂
  refine wpAny_bind (wpAny_newObj_type ?_)
  have hSf : s₂.heap.objs.size ∉ fp := fun hm => Nat.lt_irrefl _ (hfp _ hm)
  rw [hname]
  refine wpAny_pure ⟨plainId_quiet F.plain_min_loop _, raw_min_loop_first W bt hcmp hwn s₂.heap.objs.size (fresh_kp hk0) hSf hn (W.frame _ _ _ hst fun b _ o e => Heap.get?_push_of_some _ e) (fun b o e => Heap.get?_push_of_some _ (hk0 b o e)) (Heap.get?_push_size _ rfl) fun v h' tk hP hk => ?_⟩
  exact hQ v h' tk hP fun b o hbw e => hk b o hbw (Nat.ne_of_lt (Heap.lt_size e)) (Heap.get?_push_of_some _ e)
end
end LD
namespace LD
open PySem PyProof.Rows L2 L3 L10
noncomputable def okO (ds : List D) : Bool := ds.all fun a => a.canLay0 && decide (a.depth ≤ 32) && ds.all fun b => (ltd a b).isSome
noncomputable def btD (ds : List D) (i j : Nat) : Bool := (ltd (ds.getD i .none) (ds.getD j .none)).getD false
noncomputable def minI (ds : List D) : Nat := argBest (btD ds) (ds.length - 1)
theorem okO_get {ds : List D} (h : okO ds = true) {i : Nat} {a : D} (e : ds[i]? = some a) : a.canLay0 = true ∧ a.depth ≤ 32 := by
  unfold okO at h
  rw [List.all_eq_true] at h
  have := h a (List.mem_of_getElem? e)
  rw [Bool.and_eq_true, Bool.and_eq_true] at this
  exact ⟨this.1.1, of_decide_eq_true this.1.2⟩
theorem okO_lt {ds : List D} (h : okO ds = true) {i j : Nat} {a b : D} (ea : ds[i]? = some a) (eb : ds[j]? = some b) : ltd a b = some (btD ds i j) := by
  unfold okO at h
  rw [List.all_eq_true] at h
  have := h a (List.mem_of_getElem? ea)
  rw [Bool.and_eq_true] at this
  have h2 := this.2
  rw [List.all_eq_true] at h2
  have h3 := h2 b (List.mem_of_getElem? eb)
  unfold btD
  rw [List.getD_eq_getElem?_getD, List.getD_eq_getElem?_getD, ea, eb]
  obtain ⟨r, hr⟩ := Option.isSome_iff_exists.mp h3
  show ltd a b = some ((ltd a b).getD false)
  rw [hr]; rfl
theorem cmp_data {prog : Program} {w : World} {A : Around} {h0 : Heap} {P : Nat → Value → Prop} {ds : List D} (hu : A.units + 32 < cLine) (h : okO ds = true) (hp : ∀ i v, P i v → ∃ d as, ds[i]? = some d ∧ Reads h0 v d as) : CmpK prog w A h0 P (btD ds) := by
  intro i j vi vj s Q E hi hj k q
  obtain ⟨a, as, ea, ra⟩ := hp i vi hi
  obtain ⟨b, bs, eb, rb⟩ := hp j vj hj
  exact lt_ok 32 a b vi vj as bs A s Q _ (okO_get h ea).2 (okO_get h eb).2 (okO_get h ea).1 (okO_get h eb).1 (Reads.keeps k ra) (Reads.keeps k rb) hu (okO_lt h ea eb) q
noncomputable def rValsD : V → List V → Hp → VK → Prop := fun x vs H Q => ∃ a xs, x = .ref a ∧ vs = [] ∧ H a = some (DkO a xs) ∧ ∀ p, H p = none → Q (.ref p) (upd H p (VwO p a))
theorem meets_values {prog : Program} {w : World} (d : Addr) (hd : (d == sysModules) = false) : MeetsIn prog w (Builtin.«dict.values» ⟨[.ref d], []⟩) (fun _ R s => s.TypeIs (.ref d) "dict" ∧ R (.ok (.ret (.ref s.heap.objs.size))) { s with heap := s.heap.push { cls := .type "dict_values", data := .fields #[.ref d] } }) :=
  .of_wp fun A R s ⟨hT, h⟩ => by
    refine wpAny_bind ?_
    unfold Builtin.Dict.noArgs
    refine wpAny_bind (wpAny_notOrdered_dict hT ?_)
    show wpAny _ _ (pure d) _ _ s
    refine wpAny_pure ?_
    show wpAny _ _ (Builtin.Dict.showsAll d >>= _) _ _ s
    unfold Builtin.Dict.showsAll
    rw [if_neg (by rw [hd]; exact Bool.false_ne_true)]
    exact wpAny_bind (wpAny_pure (wpAny_bind (wpAny_newObj_type (wpAny_pure ⟨_, rfl, h⟩))))
theorem mt_valuesD {X : Cx} : MtR X "dict.values" rValsD := by
  intro pins s σ H x xs v us Q I rx rxs h
  obtain ⟨a, ys, rfl, rfl, e, q⟩ := h
  cases rx
  cases rxs
  obtain ⟨t1, _, hd⟩ := dd_type I e
  refine call_meetsIn PySem.F.slot_dict_values t1 PySem.F.entry_dict_values (PySem.F.args_dict_values_1 _) (meets_values a hd) ⟨t1, ?_⟩
  exact ⟨.ref s.heap.objs.size, _, I.laid (t' := s.toks) (o := VwO s.heap.objs.size a) (fun b o e => Heap.get?_push_of_some _ e) (Nat.le_refl _) (vw_ok ⟨_, Heap.get?_push_size _ rfl, rfl, rfl⟩), rfl, q _ (I.hok.fresh (Nat.le_refl _))⟩
noncomputable def rMinV (K : PySem.W.Frag) : List V → Hp → VK → Prop := fun xs H Q => ∃ (p a : Addr) (ys : List (KD × Addr × V)) (ds : List D), xs = [.ref p] ∧ H p = some (VwO p a) ∧ H a = some (DkO a ys) ∧ L2.DVs K H (ys.map (·.2.2)) ds ∧ 0 < ds.length ∧ okO ds = true ∧ ∀ (v : V) (d : D), (ys.map (·.2.2))[minI ds]? = some v → ds[minI ds]? = some d → L2.DV K H v d → Q v H
theorem dvs_at {K : PySem.W.Frag} {H : Hp} : ∀ {vs : List V} {ds : List D} {i : Nat} {v : V}, L2.DVs K H vs ds → vs[i]? = some v → ∃ d, ds[i]? = some d ∧ L2.DV K H v d
  | _, _, 0, _, .cons h _, e => by cases e; exact ⟨_, rfl, h⟩
  | _, _, n + 1, _, .cons _ t, e => by
    obtain ⟨d, h1, h2⟩ := dvs_at (i := n) t (by simpa using e)
    exact ⟨d, by simpa using h1, h2⟩
theorem dvs_len {K : PySem.W.Frag} {H : Hp} : ∀ {vs : List V} {ds : List D}, L2.DVs K H vs ds → vs.length = ds.length
  | _, _, .nil => rfl
  | _, _, .cons _ t => by rw [List.length_cons, List.length_cons, dvs_len t]
theorem vals_at {vs : List V} {us : List Value} {i : Nat} {u : Value} (h : Vals vs us) (e : us[i]? = some u) : ∃ v, vs[i]? = some v ∧ RelV v u := by
  induction h generalizing i with
  | nil => simp at e
  | cons r _ ih =>
    cases i with
    | zero => simp at e; subst e; exact ⟨_, rfl, r⟩
    | succ n => obtain ⟨v, h1, h2⟩ := ih (i := n) (by simpa using e); exact ⟨v, by simpa using h1, h2⟩
theorem rx_vals : ∀ {xs : List (KD × Addr × V)} {ys : List (KD × Addr × Value)}, RX xs ys → Vals (xs.map (·.2.2)) (ys.map (·.2.2))
  | _, _, .nil => .nil
  | _, _, .cons h t => .cons h.2.2 (rx_vals t)
theorem call_minV {X : Cx} (hc : X.calm = true) (hu : X.A.units + 64 < cLine) : CallR X (.builtin "min") (rMinV X.K) := by
  intro pins s σ H xs us Q I r h
  obtain ⟨p, a, ys, ds, rfl, ep, e, dv, h0, ho, q⟩ := h
  obtain ⟨u, rfl, ru⟩ := vals1 r
  cases ru
  obtain ⟨vw, _, _⟩ : ObjOk X.prog X.w H s.heap p (VwO p a) := I.hok p _ ep
  obtain ⟨⟨⟨z, hd, nd⟩, o, es, en, g1, g2, g3, g4⟩, _⟩ := (show ObjOk X.prog X.w H s.heap a (DkO a ys) from I.hok a _ e)
  obtain ⟨zs, k1, k2⟩ := rx_of (P := X.prog) g4
  have rel := rx_vals k1
  have hlen : ds.length = zs.length := by rw [← dvs_len dv, List.length_map, Paired.length k1]
  have raw : RawAt s.heap a (zs.map fun y => ((), y.2.2)) en := ⟨o, es, g1, g2, g3, trivial, ⟨by rw [k2, List.map_map, List.map_map]; rfl⟩, trivial⟩
  refine raw_min_walk (raw_pyIter_values (A := X.A.in1) vw raw ?_)
  have la : a < s.heap.objs.size := Heap.lt_size g1
  refine ⟨_, _, _, _, _, _, _, s.heap, rfl, raw_walks (A := X.A.in1) (I.ok.hd hc) s.heap.objs.size a (Nat.ne_of_lt la) (zs.map fun y => ((), y.2.2)) en, ⟨⟨_, Heap.get?_push_size _ rfl, rfl, rfl⟩, raw.at' fun o e => Heap.get?_push_of_some _ e⟩, fun b hb => ?_, by rw [List.length_map]; omega, cmp_data (ds := ds) (by rw [Around.in1_units]; omega) ho (fun i v hv => ?_), fun b o e => Heap.get?_push_of_some _ e, fun b hb => ?_, fun v h' tk hP hk => ?_⟩
  · show b < (s.heap.push _).objs.size
    rw [Heap.size_push]
    rcases List.mem_cons.mp hb with rfl | hb
    · exact Nat.lt_succ_self _
    · rcases List.mem_cons.mp hb with rfl | hb
      · exact Nat.lt_succ_of_lt la
      · cases hb
  · obtain ⟨k, hv⟩ := hv
    rw [List.getElem?_map] at hv
    have hv' : (zs.map (·.2.2))[i]? = some v := by
      rw [List.getElem?_map]
      cases q : zs[i]? with
      | none => rw [q] at hv; cases hv
      | some y => rw [q] at hv; cases hv; rfl
    obtain ⟨x, e1, rx⟩ := vals_at rel hv'
    obtain ⟨d, e2, dx⟩ := dvs_at dv e1
    obtain ⟨as, rd⟩ := L2.DV.reads I dx rx
    exact ⟨d, as, e2, rd⟩
  · rcases List.mem_cons.mp hb with rfl | hb
    · cases q : s.heap.get? s.heap.objs.size with
      | none => rfl
      | some o => exact absurd (Heap.lt_size q) (Nat.lt_irrefl _)
    · cases hb
  · obtain ⟨k, hv⟩ := hP
    rw [List.getElem?_map] at hv
    have hv' : (zs.map (·.2.2))[minI ds]? = some v := by
      rw [List.length_map, ← hlen] at hv
      rw [List.getElem?_map]
      show Option.map _ zs[argBest (btD ds) (ds.length - 1)]? = some v
      cases q : zs[argBest (btD ds) (ds.length - 1)]? with
      | none => rw [q] at hv; cases hv
      | some y => rw [q] at hv; cases hv; rfl
    obtain ⟨x, e1, rx⟩ := vals_at rel hv'
    obtain ⟨d, e2, dx⟩ := dvs_at dv e1
    refine ⟨x, H, I.kept (fun b o e => hk b o (fun hm => ?_) (Heap.get?_push_of_some _ e)), rx, q x d e1 e2 dx⟩
    rcases List.mem_cons.mp hm with e1 | hm
    · exact absurd (e1 ▸ Heap.lt_size e) (Nat.lt_irrefl _)
    · cases hm
noncomputable def rMin2 (K : PySem.W.Frag) : List V → Hp → VK → Prop := fun xs H Q => ∃ (x y : V) (d e : D), xs = [x, y] ∧ L2.DV K H x d ∧ L2.DV K H y e ∧ okO [d, e] = true ∧ Q (if ltd e d = some true then y else x) H
theorem call_min2 {X : Cx} (hc : X.calm = true) (hu : X.A.units + 64 < cLine) : CallR X (.builtin "min") (rMin2 X.K) := by
  intro pins s σ H xs us Q I r h
  obtain ⟨x, y, d, e, rfl, dx, dy, ho, q⟩ := h
  obtain ⟨u, v, rfl, ru, rv⟩ : ∃ u v, us = [u, v] ∧ RelV x u ∧ RelV y v := by
    cases r with
    | cons a b => cases b with
      | cons b c => cases c; exact ⟨_, _, rfl, a, b⟩
  obtain ⟨as, ra⟩ := L2.DV.reads I dx ru
  obtain ⟨bs, rb⟩ := L2.DV.reads I dy rv
  have ht : (s.heap.push { cls := .type "tuple", data := .seq #[u, v] }).IsTuple s.heap.objs.size #[u, v] := ⟨_, Heap.get?_push_size _ rfl, rfl, _, rfl⟩
  refine raw_min_two (wpAny_pyIter_tuple ht ?_)
  have sz : (s.heap.push { cls := .type "tuple", data := .seq #[u, v] }).objs.size = s.heap.objs.size + 1 := Heap.size_push ..
  refine ⟨_, _, _, _, _, _, _, s.heap, rfl, Walks.tuple (A := X.A.in1) (I.ok.hd hc) _ s.heap.objs.size (by rw [sz]; exact Nat.ne_of_lt (Nat.lt_succ_self _)) #[u, v], ⟨⟨_, Heap.get?_push_size _ rfl, rfl, rfl⟩, ht.push _⟩, fun b hb => ?_, (show 0 < 2 from by decide), cmp_data (ds := [d, e]) (by rw [Around.in1_units]; omega) ho (fun i w hw => ?_), fun b o e => Heap.get?_push_of_some _ (Heap.get?_push_of_some _ e), fun b hb => ?_, fun w h' tk hP hk => ?_⟩
  · show b < ((s.heap.push _).push _).objs.size
    rw [Heap.size_push, sz]
    rcases List.mem_cons.mp hb with rfl | hb
    · rw [sz]; exact Nat.lt_succ_self _
    · rcases List.mem_cons.mp hb with rfl | hb
      · exact Nat.lt_succ_of_lt (Nat.lt_succ_self _)
      · cases hb
  · match i, hw with
    | 0, hw => cases hw; exact ⟨d, as, rfl, ra⟩
    | 1, hw => cases hw; exact ⟨e, bs, rfl, rb⟩
    | n + 2, hw => cases hw
  · rcases List.mem_cons.mp hb with rfl | hb
    · rw [sz]
      cases q : s.heap.get? (s.heap.objs.size + 1) with
      | none => rfl
      | some o => exact absurd (Heap.lt_size q) (Nat.not_lt_of_lt (Nat.lt_succ_self _))
    · cases hb
  · have kp : ∀ b o, s.heap.get? b = some o → h'.get? b = some o := fun b o e => by
      refine hk b o (fun hm => ?_) (Heap.get?_push_of_some _ (Heap.get?_push_of_some _ e))
      have := Heap.lt_size e
      rcases List.mem_cons.mp hm with e1 | hm
      · rw [sz] at e1; rw [e1] at this; exact absurd this (Nat.not_lt_of_lt (Nat.lt_succ_self _))
      · cases hm
    have eb : btD [d, e] 1 0 = (ltd e d).getD false := rfl
    have hP : (#[u, v] : Array Value)[argBest (btD [d, e]) 1]? = some w := hP
    have ea : argBest (btD [d, e]) 1 = if btD [d, e] 1 0 = true then 1 else 0 := rfl
    have hl := okO_lt ho (i := 1) (j := 0) (a := e) (b := d) rfl rfl
    rw [ea] at hP
    cases z : btD [d, e] 1 0 with
    | true =>
      rw [z, if_pos rfl] at hP
      cases hP
      rw [hl, z, if_pos rfl] at q
      exact ⟨y, H, I.kept kp, rv, q⟩
    | false =>
      rw [z, if_neg (by simp)] at hP
      cases hP
      rw [hl, z, if_neg (by simp)] at q
      exact ⟨x, H, I.kept kp, ru, q⟩
noncomputable def tDDNe (td : TE) : TE := fun σ H Q => td σ H fun x H1 => ∃ a xs, x = .ref a ∧ H1 a = some (DkO a xs) ∧ ∀ p, H1 p = none → Q (.bl (!xs.isEmpty)) (upd H1 p (DkO p []))
theorem ne_raw {prog : Program} {w : World} {A : Around} {E : Value → Shared → Prop} {s : Shared} {a b : Addr} {oa ob : Obj} {ea : Array DictEntry} {na nb : Nat} {Q : Value → Shared → Prop} (ha : (a == sysModules) = false) (hb : (b == sysModules) = false) (h1 : s.heap.get? a = some oa) (h2 : oa.ExactDict) (h3 : oa.data = .dict ea na) (g1 : s.heap.get? b = some ob) (g2 : ob.ExactDict) (g3 : ob.data = .dict #[] nb) (hu : A.units < cLine) (h : Q (.bool (!ea.isEmpty)) s) :
    wpAny (model prog w) A (compareOp .NotEq (.ref a) (.ref b)) Q E s := by
  have tA : s.TypeIs (.ref a) "dict" := ⟨_, h1, h2.1⟩
  have tB : s.TypeIs (.ref b) "dict" := ⟨_, g1, g2.1⟩
  refine wpAny_richCompare_same_room (op := .NotEq) tA tB PySem.F.slot_dict_ne (wpAny_call_entry PySem.F.slot_dict_ne tA PySem.F.entry_dict_ne ?_ (PySem.F.args_dict_ne_2 _ _)) hu
  show wpAny _ _ (Builtin.Dict.dictSlotArgs "__ne__" ⟨[.ref a, .ref b], []⟩ >>= _) _ _ s
  refine wpAny_bind ?_
  unfold Builtin.Dict.dictSlotArgs
  refine wpAny_bind (wpAny_notOrdered_dict tA ?_)
  show wpAny _ _ (pure (Value.ref a, Value.ref b)) _ _ s
  refine wpAny_pure ?_
  refine wpAny_bind (wpAny_isInstance (T := "dict") tB PySem.F.sub_dict_dict ?_)
  simp only [Bool.not_true, Bool.false_eq_true, if_false]
  refine wpAny_bind (wpAny_pure (wpAny_bind (wpAny_pure ?_)))
  unfold Builtin.Dict.samePairs Builtin.Dict.showsAll
  rw [if_neg (by rw [ha]; exact Bool.false_ne_true), if_neg (by rw [hb]; exact Bool.false_ne_true)]
  refine wpAny_bind (wpAny_bind (wpAny_pure (wpAny_bind (wpAny_pure ?_))))
  refine wpAny_bind (wpAny_dictEntries h1 h3 ?_)
  refine wpAny_bind (wpAny_dictEntries g1 g3 ?_)
  cases q : ea.isEmpty with
  | true =>
    rw [Array.isEmpty_iff] at q
    subst q
    show wpAny _ _ (dictEpoch a >>= _) _ _ s
    refine wpAny_bind (wpAny_dictEpoch h1 h3 ?_)
    refine wpAny_bind (wpAny_of_eq (a := (none, ())) (by simp) ?_)
    exact wpAny_pure (wpAny_pure ⟨_, rfl, (fun x => nomatch x), h⟩)
  | false =>
    rw [q] at h
    have hz : ea.size ≠ 0 := fun z => by
      rw [Array.isEmpty_eq_false_iff] at q
      exact q (Array.eq_empty_of_size_eq_zero z)
    show wpAny _ _ (if (ea.size != 0) = true then _ else _) _ _ s
    rw [if_pos (by simpa using hz)]
    exact wpAny_bind (wpAny_rule (wpAny_pure (wpAny_pure ⟨_, rfl, (fun x => nomatch x), h⟩)))
theorem pc_ddne {X : Cx} {o : Expr} {td : TE} {pos : Pos} (hu : X.A.units + 64 < cLine) (ho : PE X o td) : PC X .NotEq o (.Dict [] [] pos) (tDDNe td) := by
  intro pins s σ H Q I h
  refine thn (ho pins s σ H _ I h) fun u s1 ⟨x, H1, I1, rx, a, xs, ex, e, q1⟩ => ?_
  subst ex
  obtain rfl : u = Value.ref a := rx
  refine thn (pe_ddnew (pos := pos) pins s1 σ H1 (fun y H2 => ∃ p, H1 p = none ∧ y = .ref p ∧ H2 = upd H1 p (DkO p [])) I1 (fun p hp => ⟨p, hp, rfl, rfl⟩)) fun v s2 ⟨y, H2, I2, ry, p, hp, ey, eH⟩ => ?_
  subst ey eH
  obtain rfl : v = Value.ref p := ry
  have e2 : (upd H1 p (DkO p [])) a = some (DkO a xs) := by rw [upd_ne (ne_of_none e hp)]; exact e
  obtain ⟨⟨⟨z, hd, nd⟩, o1, es, en, g1, g2, g3, g4⟩, _⟩ := (show ObjOk X.prog X.w _ s2.heap a (DkO a xs) from I2.hok a _ e2)
  obtain ⟨⟨⟨z', hd', nd'⟩, o1', es', en', g1', g2', g3', g4'⟩, _⟩ := (show ObjOk X.prog X.w _ s2.heap p (DkO p []) from I2.hok p _ upd_same)
  have e0 : es' = #[] := by
    generalize hq : es'.toList = l at g4'
    cases g4'
    exact Array.toList_eq_nil_iff.mp hq
  subst e0
  refine ne_raw hd hd' g1 g2 g3 g1' g2' g3' (by omega) ⟨.bl _, _, I2, rfl, ?_⟩
  have : es.isEmpty = xs.isEmpty := by
    have := Paired.length g4
    cases xs with
    | nil => show es.isEmpty = true; rw [Array.isEmpty_iff]; exact Array.eq_empty_of_size_eq_zero (by simpa using this.symm)
    | cons x r =>
      show es.isEmpty = false
      rw [Array.isEmpty_eq_false_iff]
      intro z
      subst z
      simp at this
  rw [this]
  exact q1 p hp
end LD
namespace LD
open PySem PyProof.Rows L2 L3 L10
noncomputable def tDDVals (td : TE) : TE := fun σ H Q => td σ H fun x H1 => rValsD x [] H1 Q
theorem pe_ddvals {X : Cx} {o : Expr} {td : TE} {apos cpos : Pos} (ho : PE X o td) (hbase : attributeBase o "values" X.env (eval o X.env) = eval o X.env) (hline : (apos.endLine == cpos.line) = true) : PE X (.Call (.Attribute o "values" apos) [] [] cpos) (tDDVals td) := by
  intro pins s σ H Q I h
  refine wpAny_Call_method0_late hbase hline (thn (ho pins s σ H _ I h) fun v s1 ⟨x, H1, I1, r1, q1⟩ => ?_)
  have q1' := q1
  obtain ⟨a, xs, rfl, _, e, _⟩ := q1'
  obtain rfl : v = Value.ref a := r1
  obtain ⟨h1, h2, _⟩ := dd_type I1 e
  exact ⟨"dict", "dict.values", PySem.F.plainAttrs_dict, PySem.F.slot_dict_values, PySem.F.type_dict_values, h1, h2, Calls.callWith_builtin rfl (PySem.evalArgs_none (mt_valuesD pins s1 σ H1 (.ref a) [] _ [] Q I1 rfl .nil q1))⟩
end LD
namespace L10
open PySem PyProof.Rows L2 L3 LD
noncomputable def keyDV : SV → Option D
  | .fz d => if keyD d = true then some d else none
  | _ => none
noncomputable def fzD : SV → Option D
  | .fz d => some d
  | _ => none
noncomputable def ddAt (ω : Sto) : SV → Option (Nat × List (D × D))
  | .rf i => match ω[i]? with
    | some (.dd kvs) => some (i, kvs)
    | _ => none
  | _ => none
noncomputable def getDD (kvs : List (D × D)) (k : D) : Option D := (kvs.find? fun kv => PyData.eqv kv.1 k).map (·.2)
noncomputable def putDD (kvs : List (D × D)) (k v : D) : List (D × D) := if (kvs.find? fun kv => PyData.eqv kv.1 k).isSome = true then kvs.map (fun kv => if PyData.eqv kv.1 k = true then (kv.1, v) else kv) else kvs ++ [(k, v)]
noncomputable def dropDD (kvs : List (D × D)) (k : D) : List (D × D) := kvs.filter fun kv => !PyData.eqv kv.1 k
section
variable {B O O' : Own} {K : PySem.W.Frag} {E : XK} {H H' H1 H2 : Hp} {α α' α1 α2 : List Addr} {ω ω' ω1 ω2 : Sto} {σ : L2.St} {ρ : SEnv} {v : V} {k : KD}
theorem keyDV_ok {x : SV} {d : D} (e : keyDV x = some d) (h : VOk O K H α v x) : ∃ (k : KD) (b : Addr), k.1 = d ∧ v = .ref b ∧ L3.DV O K H (.ref b) d := by
  cases x with
  | fz z =>
    have e : (if keyD z = true then some z else none) = some d := e
    by_cases hk : keyD z = true
    · rw [if_pos hk] at e
      cases e
      have h : L3.DV O K H v d := h
      cases d with
      | tuple xs => cases h with
        | tup h1 h2 => exact ⟨⟨_, hk⟩, _, rfl, rfl, .tup h1 h2⟩
      | _ => simp [keyD] at hk
    · rw [if_neg hk] at e; cases e
  | rf i => cases e
  | tp l => cases e
theorem dd_at {x : SV} {i : Nat} {kvs : List (D × D)} (s : StoOk B K H α ω) (hv : VOk (ow B α ω) K H α v x) (h : ddAt ω x = some (i, kvs)) : ω[i]? = some (.dd kvs) ∧ ∃ a xs, α[i]? = some a ∧ v = .ref a ∧ H a = some (DkO a xs) ∧ PrD (ow B α ω) K H xs kvs := by
  cases x with
  | fz d => cases h
  | tp l => cases h
  | rf j =>
    obtain ⟨a, ha, rfl⟩ := hv
    unfold ddAt at h
    dsimp only at h
    cases q : ω[j]? with
    | none => rw [q] at h; cases h
    | some c =>
      rw [q] at h
      cases c with
      | dd ys =>
        have e := Option.some.inj h
        cases e
        obtain ⟨ws, h1, h2⟩ := s.cel i a _ ha q
        exact ⟨q, a, ws, ha, rfl, h1, h2⟩
      | _ => cases h
theorem ks_ok : ∀ {xs : List (KD × Addr × V)} {kvs : List (D × D)}, PrD O K H xs kvs → KsOk K H xs
  | _, _, .nil => fun _ h => nomatch h
  | x :: xs, kv :: kvs, .cons h t => fun y hy => by
    rcases List.mem_cons.mp hy with e | hy
    · subst e; rw [h.1]; exact h.2.1.plain
    · exact ks_ok t y hy
theorem dec_eqv {x : KD × Addr × V} {kv : D × D} (h : x.1.1 = kv.1) : decide (x.1 = k) = PyData.eqv kv.1 k.1 := by
  rw [← h]
  haveI : Decidable (x.1.1 = k.1) := Classical.propDecidable _
  rw [eqv_kd (keyD_kd x.1.2).1 (keyD_kd k.2).1]
  by_cases e : x.1 = k
  · rw [decide_eq_true e, decide_eq_true (congrArg Subtype.val e)]
  · rw [decide_eq_false e, decide_eq_false fun z => e (Subtype.ext z)]
theorem getDD_ok : ∀ {xs : List (KD × Addr × V)} {kvs : List (D × D)}, PrD O K H xs kvs → (∀ d, getDD kvs k.1 = some d → ∃ v, getX xs k = some v ∧ L3.DV O K H v d) ∧ (getDD kvs k.1 = none → getX xs k = none)
  | _, _, .nil => ⟨fun x e => (by cases e), fun _ => rfl⟩
  | x :: xs, kv :: kvs, .cons h t => by
    unfold getDD getX
    rw [List.find?_cons, List.find?_cons, dec_eqv h.1]
    cases PyData.eqv kv.1 k.1 with
    | true => exact ⟨fun d e => ⟨x.2.2, rfl, by cases e; exact h.2.2⟩, fun e => by cases e⟩
    | false => exact getDD_ok t
theorem getDD_some {xs : List (KD × Addr × V)} {kvs : List (D × D)} (h : PrD O K H xs kvs) : (getX xs k).isSome = (getDD kvs k.1).isSome := by
  obtain ⟨h1, h2⟩ := getDD_ok (k := k) h
  cases q : getDD kvs k.1 with
  | none => rw [h2 q]; rfl
  | some x => obtain ⟨u, e, _⟩ := h1 x q; rw [e]; rfl
theorem findDD : ∀ {xs : List (KD × Addr × V)} {kvs : List (D × D)}, PrD O K H xs kvs → (xs.find? fun x => decide (x.1 = k)).isSome = (kvs.find? fun kv => PyData.eqv kv.1 k.1).isSome
  | _, _, .nil => rfl
  | x :: xs, kv :: kvs, .cons h t => by
    rw [List.find?_cons, List.find?_cons, dec_eqv h.1]
    cases PyData.eqv kv.1 k.1 with
    | true => rfl
    | false => exact findDD t
theorem mapDD {d : D} (hv : L3.DV O K H v d) : ∀ {xs : List (KD × Addr × V)} {kvs : List (D × D)}, PrD O K H xs kvs → PrD O K H (xs.map fun x => if x.1 = k then (x.1, x.2.1, v) else x) (kvs.map fun kv => if PyData.eqv kv.1 k.1 = true then (kv.1, d) else kv)
  | _, _, .nil => .nil
  | x :: xs, kv :: kvs, .cons h t => by
    rw [List.map_cons, List.map_cons]
    refine .cons ?_ (mapDD hv t)
    have e := dec_eqv (k := k) h.1
    by_cases z : x.1 = k
    · rw [if_pos z, if_pos (by rw [← e]; exact decide_eq_true z)]; exact ⟨h.1, h.2.1, hv⟩
    · rw [if_neg z, if_neg (by rw [← e, decide_eq_false z]; simp)]; exact h
theorem prd_snoc {x : KD × Addr × V} {kv : D × D} (r : x.1.1 = kv.1 ∧ L3.DV O K H (.ref x.2.1) kv.1 ∧ L3.DV O K H x.2.2 kv.2) : ∀ {xs : List (KD × Addr × V)} {kvs : List (D × D)}, PrD O K H xs kvs → PrD O K H (xs ++ [x]) (kvs ++ [kv])
  | _, _, .nil => .cons r .nil
  | _, _, .cons g t => .cons g (prd_snoc r t)
theorem putDD_ok {b : Addr} {d : D} {xs : List (KD × Addr × V)} {kvs : List (D × D)} (hb : L3.DV O K H (.ref b) k.1) (hv : L3.DV O K H v d) (h : PrD O K H xs kvs) : PrD O K H (putX xs k b v) (putDD kvs k.1 d) := by
  unfold putX putDD
  rw [findDD h]
  split
  · exact mapDD hv h
  · exact prd_snoc ⟨rfl, hb, hv⟩ h
theorem dropDD_ok : ∀ {xs : List (KD × Addr × V)} {kvs : List (D × D)}, PrD O K H xs kvs → PrD O K H (dropX xs k) (dropDD kvs k.1)
  | _, _, .nil => .nil
  | x :: xs, kv :: kvs, .cons h t => by
    unfold dropX dropDD
    rw [List.filter_cons, List.filter_cons]
    have e := dec_eqv (k := k) h.1
    by_cases z : x.1 = k
    · rw [decide_eq_true z] at e
      rw [if_neg (by simpa using z), if_neg (by rw [← e]; simp)]; exact dropDD_ok t
    · rw [decide_eq_false z] at e
      rw [if_pos (by simpa using z), if_pos (by rw [← e]; rfl)]; exact .cons h (dropDD_ok t)
theorem prd_ev {xs : List (KD × Addr × V)} {kvs : List (D × D)} (e : Ev O H O' H') (h : PrD O K H xs kvs) : PrD O' K H' xs kvs := Paired.mapP h fun _ _ q => ⟨q.1, q.2.1.ev e, q.2.2.ev e⟩
theorem prd_vals : ∀ {xs : List (KD × Addr × V)} {kvs : List (D × D)}, PrD O K H xs kvs → L3.DVs O K H (xs.map (·.2.2)) (kvs.map (·.2))
  | _, _, .nil => .nil
  | _, _, .cons h t => .cons h.2.2 (prd_vals t)
noncomputable def ddinS (neg : Bool) (fk fd : FES) : FES := fun ρ ω => (fk ρ ω).bind fun x ω1 => (fd ρ ω1).bind fun o ω2 => (RS.ofO ω2 (keyDV x)).bind fun k ω2 => (RS.ofO ω2 (ddAt ω2 o)).bind fun p ω2 => .ok (.fz (.bool ((getDD p.2 k).isSome != neg))) ω2
theorem eos_ddin {neg : Bool} {tk td : TE} {fk fd : FES} (hk : EOS K E tk fk) (hd : EOS K E td fd) : EOS K E (tDDIn K neg tk td) (ddinS neg fk fd) := by
  intro B σ H α ω ρ Q s sl w
  refine hk B σ H α ω ρ _ s sl (w.bind.imp fun x α1 ω1 H1 e1 s1 w1 v hv => ?_)
  refine hd B σ H1 α1 ω1 ρ _ s1 (sl.evo e1) (w1.bind.imp fun o α2 ω2 H2 e2 s2 w2 u hu => ?_)
  obtain ⟨d, q1, w2⟩ := WS.ofO w2
  obtain ⟨⟨i, kvs⟩, q2, w2⟩ := WS.ofO w2
  obtain ⟨_, a, xs, ha, rfl, g1, g2⟩ := dd_at s2 hu q2
  obtain ⟨k, b, rfl, rfl, hb⟩ := keyDV_ok q1 (hv.evo e2)
  refine ⟨a, b, xs, k, rfl, rfl, g1, ks_ok g2, hb.plain, ?_⟩
  rw [getDD_some g2]
  exact WS.now s2 w2 _ (.bl _)
noncomputable def ddgetS (fd fk : FES) : FES := fun ρ ω => (fd ρ ω).bind fun o ω1 => (fk ρ ω1).bind fun x ω2 => (RS.ofO ω2 (keyDV x)).bind fun k ω2 => (RS.ofO ω2 (ddAt ω2 o)).bind fun p ω2 => (RS.ofO ω2 (getDD p.2 k)).bind fun d ω2 => .ok (.fz d) ω2
theorem eos_ddget {td tk : TE} {fd fk : FES} (hd : EOS K E td fd) (hk : EOS K E tk fk) : EOS K E (tDDGet K td tk) (ddgetS fd fk) := by
  intro B σ H α ω ρ Q s sl w
  refine hd B σ H α ω ρ _ s sl (w.bind.imp fun o α1 ω1 H1 e1 s1 w1 u hu => ?_)
  refine hk B σ H1 α1 ω1 ρ _ s1 (sl.evo e1) (w1.bind.imp fun x α2 ω2 H2 e2 s2 w2 v hv => ?_)
  obtain ⟨d, q1, w2⟩ := WS.ofO w2
  obtain ⟨⟨i, kvs⟩, q2, w2⟩ := WS.ofO w2
  obtain ⟨_, a, xs, ha, rfl, g1, g2⟩ := dd_at s2 (hu.evo e2) q2
  obtain ⟨k, b, rfl, rfl, hb⟩ := keyDV_ok q1 hv
  obtain ⟨y, q3, w2⟩ := WS.ofO w2
  obtain ⟨z, hz, vz⟩ := (getDD_ok g2).1 y q3
  exact ⟨a, b, xs, k, z, rfl, rfl, g1, ks_ok g2, hb.plain, hz, WS.now s2 w2 z vz⟩
noncomputable def ddputS (fd fk fv : FES) : FSS := fun ρ ω => (fv ρ ω).bind fun y ω1 => (fd ρ ω1).bind fun o ω2 => (fk ρ ω2).bind fun x ω3 => (RS.ofO ω3 (keyDV x)).bind fun k ω3 => (RS.ofO ω3 (ddAt ω3 o)).bind fun p ω3 => (RS.ofO ω3 (fzD y)).bind fun d ω3 => if p.2.length < 1000000 then .ok (.nx ρ) (ω3.set p.1 (.dd (putDD p.2 k d))) else .bad
theorem fzD_ok {x : SV} {d : D} (e : fzD x = some d) (h : VOk O K H α v x) : L3.DV O K H v d := by
  cases x with
  | fz z => cases e; exact h
  | rf i => cases e
  | tp l => cases e
theorem sos_ddput {td tk tv : TE} {fd fk fv : FES} (hd : EOS K E td fd) (hk : EOS K E tk fk) (hv : EOS K E tv fv) : SOS K E (sDDPut K td tk tv) (ddputS fd fk fv) := by
  intro B σ H α ω ρ D s sl w
  refine hv B σ H α ω ρ _ s sl (WS.imp (WS.bind w) fun y α1 ω1 H1 e1 s1 w1 vy hvy => ?_)
  refine hd B σ H1 α1 ω1 ρ _ s1 (sl.evo e1) (WS.imp (WS.bind w1) fun o α2 ω2 H2 e2 s2 w2 u hu => ?_)
  refine hk B σ H2 α2 ω2 ρ _ s2 (sl.evo (e1.trans e2)) (WS.imp (WS.bind w2) fun x α3 ω3 H3 e3 s3 w3 z hz => ?_)
  obtain ⟨kd, q1, w3⟩ := WS.ofO w3
  obtain ⟨⟨i, kvs⟩, q2, w3⟩ := WS.ofO w3
  obtain ⟨d, q3, w3⟩ := WS.ofO w3
  obtain ⟨qi, a, xs, ha, rfl, g1, g2⟩ := dd_at s3 (hu.evo e3) q2
  obtain ⟨k, b, rfl, rfl, hb⟩ := keyDV_ok q1 hz
  have hy := fzD_ok q3 (hvy.evo (e2.trans e3))
  dsimp only at w3
  by_cases hn : kvs.length < 1000000
  · rw [if_pos hn] at w3
    have ev : Ev (ow B α3 ω3) H3 (ow B α3 ω3) (upd H3 a (DkO a (putX xs k b vy))) := ev_put ha qi (by intro z; cases z)
    have e4 : Evo α3 ω3 H3 α3 (ω3.set i (.dd (putDD kvs k.1 d))) (upd H3 a (DkO a (putX xs k b vy))) := Evo.put ha qi (by intro z; cases z) (by intro z; cases z)
    have hl : xs.length = kvs.length := Paired.length g2
    refine ⟨a, b, xs, k, rfl, rfl, g1, ks_ok g2, hb.plain, lt1e6 (by omega), ?_⟩
    exact w3 α3 _ e4 (s3.put ha qi (by intro z; cases z) (by intro z; cases z) ⟨_, upd_same, putDD_ok (hb.ev ev) (hy.ev ev) (prd_ev ev g2)⟩) σ ((sl.evo (e1.trans (e2.trans e3))).evo e4)
  · rw [if_neg hn] at w3; exact w3.elim
noncomputable def ddget2S (fd fk fx : FES) : FES := fun ρ ω => (fd ρ ω).bind fun o ω1 => (RS.ofO ω1 (ddAt ω1 o)).bind fun _ ω1 => (fk ρ ω1).bind fun x ω2 => (fx ρ ω2).bind fun z ω3 => (RS.ofO ω3 (keyDV x)).bind fun k ω3 => (RS.ofO ω3 (ddAt ω3 o)).bind fun p ω3 => .ok (match getDD p.2 k with | some d => .fz d | none => z) ω3
theorem eos_ddget2 {td tk tx : TE} {fd fk fx : FES} (hd : EOS K E td fd) (hk : EOS K E tk fk) (hx : EOS K E tx fx) : EOS K E (tDDGet2 K td tk tx) (ddget2S fd fk fx) := by
  intro B σ H α ω ρ Q s sl w
  refine hd B σ H α ω ρ _ s sl (w.bind.imp fun o α1 ω1 H1 e1 s1 w1 u hu => ?_)
  obtain ⟨⟨i0, kvs0⟩, q0, w1⟩ := WS.ofO w1
  obtain ⟨_, a, xs0, _, rfl, g0, _⟩ := dd_at s1 hu q0
  refine ⟨a, xs0, rfl, g0, ?_⟩
  refine hk B σ H1 α1 ω1 ρ _ s1 (sl.evo e1) (w1.bind.imp fun x α2 ω2 H2 e2 s2 w2 v hv => ?_)
  refine hx B σ H2 α2 ω2 ρ _ s2 (sl.evo (e1.trans e2)) (w2.bind.imp fun z α3 ω3 H3 e3 s3 w3 vz hz => ?_)
  obtain ⟨d, q1, w3⟩ := WS.ofO w3
  obtain ⟨⟨i, kvs⟩, q2, w3⟩ := WS.ofO w3
  obtain ⟨_, a', xs, ha, ea, g1, g2⟩ := dd_at s3 (hu.evo (e2.trans e3)) q2
  cases ea
  obtain ⟨k, b, rfl, rfl, hb⟩ := keyDV_ok q1 (hv.evo e3)
  refine ⟨b, xs, k, rfl, g1, ks_ok g2, hb.plain, WS.now s3 w3 _ ?_⟩
  obtain ⟨h1, h2⟩ := getDD_ok (k := k) g2
  dsimp only
  cases q : getDD kvs k.1 with
  | none => rw [h2 q]; exact hz
  | some y => obtain ⟨u, e, h⟩ := h1 y q; rw [e]; exact h
noncomputable def ddpopS (fd fk : FES) : FES := fun ρ ω => (fd ρ ω).bind fun o ω1 => (RS.ofO ω1 (ddAt ω1 o)).bind fun _ ω1 => (fk ρ ω1).bind fun x ω2 => (RS.ofO ω2 (keyDV x)).bind fun k ω2 => (RS.ofO ω2 (ddAt ω2 o)).bind fun p ω2 => (RS.ofO ω2 (getDD p.2 k)).bind fun d ω2 => .ok (.fz d) (ω2.set p.1 (.dd (dropDD p.2 k)))
theorem eos_ddpop {td tk : TE} {fd fk : FES} (hd : EOS K E td fd) (hk : EOS K E tk fk) : EOS K E (tDDPop K td tk) (ddpopS fd fk) := by
  intro B σ H α ω ρ Q s sl w
  refine hd B σ H α ω ρ _ s sl (w.bind.imp fun o α1 ω1 H1 e1 s1 w1 u hu => ?_)
  obtain ⟨⟨i0, kvs0⟩, q0, w1⟩ := WS.ofO w1
  obtain ⟨_, a, xs0, _, rfl, g0, _⟩ := dd_at s1 hu q0
  refine ⟨a, xs0, rfl, g0, ?_⟩
  refine hk B σ H1 α1 ω1 ρ _ s1 (sl.evo e1) (w1.bind.imp fun x α2 ω2 H2 e2 s2 w2 v hv => ?_)
  obtain ⟨d, q1, w2⟩ := WS.ofO w2
  obtain ⟨⟨i, kvs⟩, q2, w2⟩ := WS.ofO w2
  obtain ⟨qi, a', xs, ha, ea, g1, g2⟩ := dd_at s2 (hu.evo e2) q2
  cases ea
  obtain ⟨k, b, rfl, rfl, hb⟩ := keyDV_ok q1 hv
  obtain ⟨y, q3, w2⟩ := WS.ofO w2
  obtain ⟨z, hz, vz⟩ := (getDD_ok g2).1 y q3
  have ev : Ev (ow B α2 ω2) H2 (ow B α2 ω2) (upd H2 a (DkO a (dropX xs k))) := ev_put ha qi (by intro z; cases z)
  have e4 : Evo α2 ω2 H2 α2 (ω2.set i (.dd (dropDD kvs k.1))) (upd H2 a (DkO a (dropX xs k))) := Evo.put ha qi (by intro z; cases z) (by intro z; cases z)
  refine ⟨b, xs, k, z, rfl, g1, ks_ok g2, hb.plain, hz, ?_⟩
  exact w2 α2 _ e4 (s2.put ha qi (by intro z; cases z) (by intro z; cases z) ⟨_, upd_same, dropDD_ok (prd_ev ev g2)⟩) z (VOk.evo (x := .fz y) e4 vz)
noncomputable def ddnewS : FES := fun _ ω => .ok (.rf ω.length) (ω ++ [.dd []])
theorem eos_ddnew : EOS K E tDDNew ddnewS := by
  intro B σ H α ω ρ Q s sl w
  exact fun p hp => new_cell s hp w fun _ => ⟨[], upd_same, .nil⟩
noncomputable def ddneS (fd : FES) : FES := fun ρ ω => (fd ρ ω).bind fun o ω1 => (RS.ofO ω1 (ddAt ω1 o)).bind fun p ω1 => .ok (.fz (.bool (!p.2.isEmpty))) ω1
theorem eos_ddne {td : TE} {fd : FES} (hd : EOS K E td fd) : EOS K E (tDDNe td) (ddneS fd) := by
  intro B σ H α ω ρ Q s sl w
  refine hd B σ H α ω ρ _ s sl (w.bind.imp fun o α1 ω1 H1 e1 s1 w1 u hu => ?_)
  obtain ⟨⟨i, kvs⟩, q2, w1⟩ := WS.ofO w1
  obtain ⟨_, a, xs, ha, rfl, g1, g2⟩ := dd_at s1 hu q2
  refine ⟨a, xs, rfl, g1, fun p hp => ?_⟩
  have sm : Same H1 (upd H1 p (DkO p [])) := same_upd hp _
  have ex : xs.isEmpty = kvs.isEmpty := by cases g2 <;> rfl
  rw [ex]
  exact w1 α1 _ (Evo.same sm) (s1.grow sm) _ (.bl _)
noncomputable def ddminS (fd : FES) : FES := fun ρ ω => (fd ρ ω).bind fun o ω1 => (RS.ofO ω1 (ddAt ω1 o)).bind fun p ω1 => if okO (p.2.map (·.2)) = true then (RS.ofO ω1 (p.2.map (·.2))[minI (p.2.map (·.2))]?).bind fun d ω1 => .ok (.fz d) ω1 else .bad
theorem eos_ddmin {td : TE} {fd : FES} (hd : EOS K E td fd) : EOS K E (tCB (rMinV K) (tCons (tDDVals td) tNil)) (ddminS fd) := by
  intro B σ H α ω ρ Q s sl w
  refine hd B σ H α ω ρ _ s sl (w.bind.imp fun o α1 ω1 H1 e1 s1 w1 u hu => ?_)
  obtain ⟨⟨i, kvs⟩, q2, w1⟩ := WS.ofO w1
  obtain ⟨_, a, xs, ha, rfl, g1, g2⟩ := dd_at s1 hu q2
  refine ⟨a, xs, rfl, rfl, g1, fun p hp => ?_⟩
  have sm : Same H1 (upd H1 p (VwO p a)) := same_upd hp _
  have s2 := s1.grow sm
  dsimp only at w1
  by_cases ho : okO (kvs.map (·.2)) = true
  · rw [if_pos ho] at w1
    obtain ⟨d, q3, w1⟩ := WS.ofO w1
    have g3 : L3.DVs (ow B α1 ω1) K (upd H1 p (VwO p a)) (xs.map (·.2.2)) (kvs.map (·.2)) := (prd_vals g2).ev (Ev.grow sm)
    have hl : 0 < (kvs.map (·.2)).length := by
      cases kvs with
      | nil => cases q3
      | cons x r => rw [List.map_cons, List.length_cons]; omega
    refine ⟨p, a, xs, kvs.map (·.2), rfl, upd_same, sm _ _ g1, g3.plain, hl, ho, fun v d' ev ed _ => ?_⟩
    obtain ⟨v', h1, h2⟩ := g3.get ed
    rw [ev] at h1
    cases h1
    rw [q3] at ed
    cases ed
    exact w1 α1 _ (Evo.same sm) s2 _ h2
  · rw [if_neg ho] at w1; exact w1.elim
end
end L10
namespace PySem
open Sem (wp)
namespace F
theorem lk_list_keys : typeLookup (.type "list") "keys" = pure none := by rw [typeLookup_type, builtinLookup_eq_fast]; kernel_rfl
theorem lk_list_hook : typeLookup (.type "list") "__getattr__" = pure none := by rw [typeLookup_type, builtinLookup_eq_fast]; kernel_rfl
end F
section
variable {prog : Program} {w : World} {A : Around} {E : Value → Shared → Prop} {h : Heap} {g : Array GenState} {d : Drawn} {t : Nat} {os : OsState} {a : Addr} {o : Obj}
theorem keys_entry_list {tk : Tok} {Q : Fin → Shared → Prop} {E : Value → Shared → Prop} {its : Array Value} {n : Nat} {sl : Array (Option Value)} (hx : h.get? a = some ⟨.type "list", none, .seq its n, sl⟩) (hh : A.handled = none) (hq : ∀ e h' t', (∀ b o, h.get? b = some o → h'.get? b = some o) → (⟨h', g, d, t', os⟩ : Shared).TypeIs e "AttributeError" → E e ⟨h', g, d, t', os⟩) :
    wpAny (model prog w) A (Builtin.«object.__getattribute__» ⟨[.ref a, .str "keys" tk], []⟩) Q E ⟨h, g, d, t, os⟩ := by
  have hT : (⟨h, g, d, t, os⟩ : Shared).TypeIs (.ref a) "list" := ⟨_, hx, rfl⟩
  have f4 := F.lk_list_keys
  repeat (any_goals (first | assumption | wp_step))
  exact raise_attr (by decide +kernel) hh hq
theorem keys_by_list {tk : Tok} {Q : Value → Shared → Prop} {E : Value → Shared → Prop} {its : Array Value} {n : Nat} {sl : Array (Option Value)} (hx : h.get? a = some ⟨.type "list", none, .seq its n, sl⟩) (hh : A.handled = none) (hq : ∀ e h' t', (∀ b o, h.get? b = some o → h'.get? b = some o) → (⟨h', g, d, t', os⟩ : Shared).TypeIs e "AttributeError" → E e ⟨h', g, d, t', os⟩) :
    wpAny (model prog w) A (getAttrBy (.ref a) (.str "keys" tk) false) Q E ⟨h, g, d, t, os⟩ := by
  have hT : (⟨h, g, d, t, os⟩ : Shared).TypeIs (.ref a) "list" := ⟨_, hx, rfl⟩
  have f2 := F.slot_list_getattribute.lookup
  have f3 := F.slot_list_getattribute.bind (.ref a)
  have f4 := F.lk_list_hook
  repeat (any_goals (first | assumption | wp_step))
  refine codeAny_call_builtin F.slot_list_getattribute.plain F.entry_list_ga (F.slot_list_getattribute.check _ _ _ _ _ _ _ _ hT (F.args_list_getattribute_2 _ _) (keys_entry_list hx hh fun e h' t' hk he => ?_))
  have fs := F.sub_ae
  show wpAny (model prog w) A (getattributeRaised (Value.ref a) (Value.str (Str.ofString "keys") tk) (Value.type "list") e none false false) Q E _
  unfold getattributeRaised
  refine wpAny_bind (wpAny_isInstance he fs ?_)
  repeat (any_goals (first | assumption | wp_step))
  exact hq e h' t' hk he
theorem keys_attr_list {Q : Option Value → Shared → Prop} {its : Array Value} {n : Nat} {sl : Array (Option Value)} (hx : h.get? a = some ⟨.type "list", none, .seq its n, sl⟩) (hh : A.handled = none) (hq : ∀ h' t', (∀ b o, h.get? b = some o → h'.get? b = some o) → Q none ⟨h', g, d, t', os⟩) :
    wpAny (model prog w) A (getAttr? (.ref a) "keys") Q E ⟨h, g, d, t, os⟩ := by
  unfold getAttr? getAttrBy?
  have fs := F.sub_ae
  refine wpAny_bind ?_
  repeat (any_goals (first | assumption | (with_reducible refine keys_by_list hx hh fun e h' t' hk he => ?_) | wp_step))
  exact hq h' t' hk
end
end PySem
namespace PySem
open Sem (wp)
section
variable {prog : Program} {w : World} {A : Around} {E : Value → Shared → Prop} {s : Shared} {K : Type} [DecidableEq K] {knd : KeyKind prog w K} {I dd ax : Addr} {items : Array Value} {ks : List (K × Value)} {R : Result → Shared → Prop}
theorem updL_loop {h0 : Heap} (hh : A.handled = none) (hne : ax ≠ I) (hI : I ≠ dd) (hax : ax ≠ dd) (hp : ∀ (i : Nat) (v : Value), items[i]? = some v → ∃ q key k x, v = .ref q ∧ q ≠ dd ∧ q ≠ I ∧ ks[i]? = some (k, x) ∧ knd.is k key = true ∧ h0.IsTuple q #[key, x]) (hs : ks.length = items.size) (hz : items.size ≤ sizeLine)
    (hR : ∀ h' tk, h'.DictOf knd dd (merged [] ks) → (∀ b o, b ≠ dd → b ≠ I → h0.get? b = some o → h'.get? b = some o) → R (.ok (.ret .none)) { s with heap := h', toks := tk }) :
    ∀ (m i : Nat) (h : Heap) (tk : Nat), items.size - i = m → i ≤ items.size → h.IsListIter I ax i → h.IsList ax items → h.DictOf knd dd (merged [] (ks.take i)) → (∀ b o, b ≠ dd → b ≠ I → h0.get? b = some o → h.get? b = some o) →
      codeAny (model prog w) A (.builtin "dict.update.loop" ⟨[.ref dd, .ref I, rawInt i, .none], []⟩) R { s with heap := h, toks := tk } := by
  have W := Walks.list (prog := prog) (w := w) (A := A.in1) hh I ax hne items
  intro m
  induction m with
  | zero =>
    intro i h tk hm hi it tu dt kp
    have e : i = items.size := by omega
    subst e
    refine codeAny_builtin F.entry_upd_loop ?_
    rw [Around.under_plainId F.plain_upd_loop _]
    show wpAny _ A.in1 (pyNext (.ref I) >>= _) _ _ _
    refine wpAny_bind (W.done _ _ _ ⟨it, tu⟩ fun h' tk' hk => ?_)
    rw [List.take_of_length_le (by omega)] at dt
    show wpAny _ A.in1 (Builtin.Dict.addKeywords dd [] >>= fun _ => ret .none) _ _ _
    refine wpAny_bind (wpAny_pure (wpAny_pure ?_))
    refine hR h' tk' (dt.at fun o e => hk dd o (by simp; exact fun z => hI z.symm) e) fun b o h1 h2 e => hk b o (by simp; exact h2) (kp b o h1 h2 e)
  | succ m ih =>
    intro i h tk hm hi it tu dt kp
    have hlt : i < items.size := by omega
    refine codeAny_builtin F.entry_upd_loop ?_
    rw [Around.under_plainId F.plain_upd_loop _]
    show wpAny _ A.in1 (pyNext (.ref I) >>= _) _ _ _
    refine wpAny_bind (W.item i _ _ _ hlt ⟨it, tu⟩ fun v h' tk' hv st hk => ?_)
    obtain ⟨q, key, k, x, rfl, hq1, hq2, hk1, hk2, ht⟩ := hp i v hv
    have ht' : h'.IsTuple q #[key, x] := ht.at fun o e => hk q o (by simp; exact hq2) (kp q o hq1 hq2 e)
    have dt' : h'.DictOf knd dd (merged [] (ks.take i)) := dt.at fun o e => hk dd o (by simp; exact fun z => hI z.symm) e
    have kp' : ∀ b o, b ≠ dd → b ≠ I → h0.get? b = some o → h'.get? b = some o := fun b o h1 h2 e => hk b o (by simp; exact h2) (kp b o h1 h2 e)
    obtain ⟨oq, hoq, hcq, nq, hdq⟩ := ht'
    obtain ⟨cq, dq, dtq, slq⟩ := oq
    cases hcq
    cases hdq
    have hT : ({ s with heap := h', toks := tk' } : Shared).TypeIs (.ref q) "tuple" := ⟨_, hoq, rfl⟩
    refine wpAny_bind (wpAny_holding (wpAny_bind ?_))
    refine wpAny_tryCatch ?_
    unfold Builtin.Dict.pairItems
    refine wpAny_bind (wpAny_typeOf hT ?_)
    rw [if_pos (by decide)]
    refine wpAny_bind ?_
    unfold seqItems?
    refine wpAny_bind (wpAny_load hoq (wpAny_pure (wpAny_pure ?_)))
    show wpAny _ A.in1 (holding [key, x] (dictSet dd key x)) _ _ _
    refine wpAny_holding (wpAny_dictSet_pairs hk2 dt' (fun h2 d2 s2 => ?_) ?_)
    · refine wpAny_pure ⟨plainId_quiet F.plain_upd_loop _, ?_⟩
      have e2 : ∀ b o, b ≠ dd → h'.get? b = some o → h2.get? b = some o := fun b o hb e => (s2.2 b hb).trans e
      refine ih (i + 1) h2 (tk' + 1) (by omega) hlt (st.1.at fun o e => e2 I o hI e) (st.2.at fun o e => e2 ax o hax e) ?_ fun b o h1 h2 e => e2 b o h1 (kp' b o h1 h2 e)
      rw [merged_take_succ [] ks i (k, x) hk1]
      exact d2
    · have : (merged [] (ks.take i)).length ≤ (ks.take i).length := merged_len _
      rw [List.length_take] at this
      omega
end
end PySem
namespace PySem
open Sem (wp)
open PyProof.Rows
section
variable {prog : Program} {w : World} {A : Around} {E : Value → Shared → Prop} {s : Shared} {K : Type} [DecidableEq K] {knd : KeyKind prog w K} {ax : Addr} {items : Array Value} {ks : List (K × Value)} {R : Result → Shared → Prop}
theorem call_dict_pairsL {Q : Value → Shared → Prop} {n : Nat} {sl : Array (Option Value)} (hh : A.handled = none) (hx : s.heap.get? ax = some ⟨.type "list", none, .seq items n, sl⟩) (hs : ks.length = items.size) (hz : items.size ≤ sizeLine)
    (hp : ∀ (i : Nat) (v : Value), items[i]? = some v → ∃ q key k x, v = .ref q ∧ ks[i]? = some (k, x) ∧ knd.is k key = true ∧ s.heap.IsTuple q #[key, x])
    (h : ∀ h' tk, h'.DictOf knd s.heap.objs.size (merged [] ks) → (∀ b o, s.heap.get? b = some o → h'.get? b = some o) → Q (.ref s.heap.objs.size) { s with heap := h', toks := tk }) :
    wpAny (model prog w) A (call (.type "dict") [.ref ax]) Q E s := by
  refine callType_codes (Q₁ := fun obj s₁ => obj = .ref s.heap.objs.size ∧ s₁ = { s with heap := s.heap.push { cls := .type "dict", data := .dict #[] } }) F.kt_called_dict (F.kt_typeCall_dict_1 _) F.entry_dict_init (kt_code_dict_new _ ⟨rfl, rfl⟩) ?_
  rintro obj s₁ ⟨rfl, rfl⟩
  have hnew : (s.heap.push { cls := .type "dict", data := .dict #[] }).DictOf knd s.heap.objs.size [] := Heap.DictOf.new s.heap
  have hx' : (s.heap.push { cls := .type "dict", data := .dict #[] }).get? ax = some ⟨.type "list", none, .seq items n, sl⟩ := Heap.get?_push_of_some _ hx
  have hT : ({ s with heap := s.heap.push { cls := .type "dict", data := .dict #[] } } : Shared).TypeIs (.ref ax) "list" := ⟨_, hx', rfl⟩
  refine ⟨hnew.typeIs, F.args_dict_init_2 _ _, ?_⟩
  unfold Builtin.«dict.__init__»
  refine wpAny_bind ?_
  unfold Builtin.Dict.selfAndRest
  refine wpAny_bind (wpAny_notOrdered_dict hnew.typeIs ?_)
  show wpAny _ _ (pure (s.heap.objs.size, [Value.ref ax])) _ _ _
  refine wpAny_pure ?_
  show wpAny _ _ (Builtin.Dict.updateFrom "dict.__init__" s.heap.objs.size (.ref ax) [] .none) _ _ _
  unfold Builtin.Dict.updateFrom
  refine wpAny_bind (wpAny_typeOf hT ?_)
  rw [if_pos (by decide)]
  refine wpAny_bind (keys_attr_list hx' hh fun h' t' hk => ?_)
  rw [if_pos (show (Option.none : Option Value).isNone = true from rfl)]
  refine wpAny_bind (wpAny_rule ?_)
  have hx2 := hk _ _ hx'
  have ht2 : h'.IsList ax items := ⟨_, hx2, rfl, n, rfl⟩
  refine wpAny_bind (wpAny_pyIter_list (s := { s with heap := h', toks := t' }) ht2 ?_)
  refine wpAny_pure ⟨plainId_quiet F.plain_upd_loop _, ?_⟩
  have ltd : s.heap.objs.size < h'.objs.size := by
    obtain ⟨o, _, _, ho, _⟩ := hnew
    exact Heap.lt_size (hk _ _ ho)
  have lta : ax < s.heap.objs.size := Heap.lt_size hx
  refine updL_loop (A := A.in1) (prog := prog) (w := w) (knd := knd) (ks := ks) (items := items) (ax := ax) (R := wants (fun r s₂ => r = Value.none ∧ Q (Value.ref s.heap.objs.size) s₂) E) (h0 := h'.push { cls := .type "list_iterator", data := .fields #[.ref ax, .int 0 0] }) (s := { s with heap := h', toks := t' }) hh (Nat.ne_of_lt (Nat.lt_trans lta ltd)) (Nat.ne_of_gt ltd) (Nat.ne_of_lt lta) (fun i v e => ?_) hs hz (fun h2 tk2 d2 k2 => ?_) items.size 0 _ t' (by omega) (Nat.zero_le _) ⟨_, Heap.get?_push_size _ rfl, rfl, rfl⟩ ⟨_, Heap.get?_push_of_some _ hx2, rfl, n, rfl⟩ ?_ fun b o _ _ e => e
  · obtain ⟨q, key, k, x, rfl, h1, h2, o, ho, h3⟩ := hp i v e
    have lq := Heap.lt_size ho
    exact ⟨q, key, k, x, rfl, Nat.ne_of_lt lq, Nat.ne_of_lt (Nat.lt_trans lq ltd), h1, h2, o, Heap.get?_push_of_some _ (hk _ _ (Heap.get?_push_of_some _ ho)), h3⟩
  · refine ⟨rfl, h h2 tk2 d2 fun b o e => ?_⟩
    have lb := Heap.lt_size e
    exact k2 b o (Nat.ne_of_lt lb) (Nat.ne_of_lt (Nat.lt_trans lb ltd)) (Heap.get?_push_of_some _ (hk _ _ (Heap.get?_push_of_some _ e)))
  · have := hnew.at (h' := h'.push { cls := .type "list_iterator", data := .fields #[.ref ax, .int 0 0] }) fun o e => Heap.get?_push_of_some _ (hk _ _ e)
    exact this
end
end PySem
namespace L10
open PySem PySem.Spec PyProof.Rows L2 L3
noncomputable def rDictL (K : PySem.W.Frag) : List V → Hp → VK → Prop := fun xs H Q => ∃ p ys kvs, xs = [.ref p] ∧ SqL K H p ys ∧ PrsOk K H ys kvs ∧ ∀ d, H d = none → Q (.ref d) (upd H d (.dK (mergeK [] kvs)))
theorem call_dictL {X : Cx} (hc : X.calm = true) : CallR X (.type "dict") (rDictL X.K) := by
  intro pins s σ H xs us Q I r h
  obtain ⟨p, ys, kvs, rfl, hq, hp, q⟩ := h
  obtain ⟨u, rfl, ru⟩ := vals1 r
  cases ru
  obtain ⟨its, rv, ⟨o, n, ho, hcl, hdn, hd⟩, hz⟩ := I.list hq
  obtain ⟨ks, k1, k2, k3⟩ := prs_ok I hp rv
  obtain ⟨oc, od, odt, osl⟩ := o
  cases hcl; cases hd; cases hdn
  have hl := rv.length
  have hkl := k1.length
  refine call_dict_pairsL (knd := mixKind X.prog X.w) (ks := ks) (I.ok.hd hc) ho (by rw [List.size_toArray]; exact k2) (by rw [List.size_toArray, ← hl]; exact hz) (fun i v e => k3 i v (by simpa using e)) fun h' tk dd hk => ?_
  refine ⟨.ref s.heap.objs.size, _, I.laid (t' := tk) (o := .dK (mergeK [] kvs)) hk (Nat.le_refl _) ?_, rfl, q _ (I.hok.fresh (Nat.le_refl _))⟩
  refine dk_new ?_ ?_ (KV.merge k1 .nil) dd
  · have := length_mergeK kvs []
    rw [List.length_nil] at this
    omega
  · exact beq_eq_false_iff_ne.mpr (Nat.ne_of_gt I.big)
end L10
namespace PySem
open Sem (wp)
open PyProof.Rows
section
variable {prog : Program} {w : World} {A : Around} {E : Value → Shared → Prop} {s : Shared} {t : Addr}
theorem preSum_take (ns : List Int) : ∀ j, j ≤ ns.length → preSum (fun i => ns.getD i 0) j = (ns.take j).sum
  | 0, _ => by simp [preSum]
  | j + 1, h => by
    rw [preSum, preSum_take ns j (by omega), List.take_add_one]
    have : ns[j]? = some (ns.getD j 0) := by rw [List.getD_eq_getElem?_getD, List.getElem?_eq_getElem (by omega)]; rfl
    rw [this]
    simp
theorem sum_small : ∀ (ns : List Int) (B : Int), 0 ≤ B → (∀ n ∈ ns, 0 ≤ n ∧ n ≤ B) → 0 ≤ ns.sum ∧ ns.sum ≤ ns.length * B
  | [], B, hB, _ => by simp
  | n :: r, B, hB, h => by
    obtain ⟨h1, h2⟩ := sum_small r B hB fun m hm => h m (List.mem_cons_of_mem _ hm)
    obtain ⟨g1, g2⟩ := h n (List.mem_cons_self ..)
    rw [List.sum_cons, List.length_cons]
    have : ((r.length + 1 : Nat) : Int) * B = r.length * B + B := by rw [Int.natCast_add, Int.add_mul]; simp
    rw [this]
    omega
theorem sum_lstN {vs : List Value} {ns : List Int} {Q : Value → Shared → Prop} (hh : A.handled = none) (hl : s.heap.IsList t vs.toArray) (hi : IntsAre vs ns) (hb : ∀ n ∈ ns, 0 ≤ n ∧ n ≤ 1000000) (hn : ns.length ≤ 1000000)
    (h : ∀ h' (u : Tok) tk, (∀ b o, s.heap.get? b = some o → h'.get? b = some o) → Q (.int ns.sum u) { s with heap := h', toks := tk }) :
    wpAny (model prog w) A (call (.builtin "sum") [.ref t]) Q E s := by
  obtain ⟨xs, e⟩ := hi.allInts.items
  have hns : ns = xs.toList.map (·.1) := by
    rw [← hi.numsOf, ← nums_intItems, ← e]
  have hsz : xs.size = ns.length := by rw [hns, List.length_map, Array.length_toList]
  have hiz : (intItems xs).size = ns.length := by rw [← hsz]; simp [intItems]
  rw [e] at hl
  refine call_sum_walk (iter_intList hl fun s₂ e st hfp hlI => ?_)
  subst e
  refine ⟨_, _, _, _, _, _, numAt xs, rfl, Walks.list (A := A.in1) hh _ t hlI (intItems xs), st, hfp, fun _ _ => intItems_at, fun j hj => ?_, fun h' tk t' hk => ?_⟩
  · rw [hiz] at hj
    have ev : numAt xs = fun i => ns.getD i 0 := by funext i; rw [numAt_eq, ← hns]
    rw [ev]
    obtain ⟨a1, a2⟩ := hb (ns.getD j 0) (getD_mem hj)
    refine ⟨⟨by show -(2 ^ 63) ≤ ns.getD j 0; omega, by show ns.getD j 0 < 2 ^ 63; omega⟩, ?_⟩
    rw [preSum_take ns (j + 1) (by omega)]
    obtain ⟨b1, b2⟩ := sum_small (ns.take (j + 1)) 1000000 (by omega) fun n m => hb n (List.mem_of_mem_take m)
    have : (ns.take (j + 1)).length ≤ 1000000 := by rw [List.length_take]; omega
    constructor
    · omega
    · have : ((ns.take (j + 1)).length : Int) * 1000000 ≤ 1000000 * 1000000 := by omega
      omega
  · have ev : numAt xs = fun i => ns.getD i 0 := by funext i; rw [numAt_eq, ← hns]
    rw [hiz, ev, preSum_take ns _ (Nat.le_refl _), List.take_length]
    exact h h' t' tk (old_kept hk)
end
end PySem
namespace L10
open PySem PySem.Spec PyProof.Rows L2 L3 LD
noncomputable def rSumL (K : PySem.W.Frag) : List V → Hp → VK → Prop := fun xs H Q => ∃ (a : Addr) (ns : List Int), xs = [.ref a] ∧ SqL K H a (ns.map V.int) ∧ (∀ n ∈ ns, 0 ≤ n ∧ n ≤ 1000000) ∧ ns.length ≤ 1000000 ∧ Q (.int ns.sum) H
theorem call_sumL {X : Cx} (hc : X.calm = true) : CallR X (.builtin "sum") (rSumL X.K) := by
  intro pins s σ H xs us Q I r h
  obtain ⟨a, ns, rfl, hx, hb, hn, q⟩ := h
  obtain ⟨u, rfl, r1⟩ := vals1 r
  cases r1
  obtain ⟨its, r2, ht, _⟩ := I.list hx
  exact sum_lstN (I.ok.hd hc) ht.isList (intsAre_of r2) hb hn fun h' u tk hk => ⟨.int ns.sum, H, I.kept hk, ⟨_, rfl⟩, q⟩
noncomputable def sumLD : List D → Option RV
  | [.list ds] => (match asIs ds with
    | some ns => if (ns.all fun n => decide (0 ≤ n) && decide (n ≤ 1000000)) = true ∧ ns.length ≤ 1000000 then some (.fz (.int ns.sum)) else none
    | none => none)
  | _ => none
theorem cb_sumL {K : PySem.W.Frag} : CbP K (rSumL K) sumLD := by
  intro O H xs ds rv Q n hp e q
  unfold sumLD at e
  split at e
  · split at e
    · rename_i ns hs
      split at e
      · rename_i hn
        cases e
        cases hp with
        | cons h1 h2 =>
          cases h2
          obtain ⟨a, vs, rfl, g1, g2⟩ := DXl h1
          rw [asIs_ok g2 hs] at g1
          refine ⟨a, ns, rfl, g1.sq, fun n hm => ?_, hn.2, q.at (.int _)⟩
          have := (List.all_eq_true.mp hn.1) n hm
          rw [Bool.and_eq_true] at this
          exact ⟨of_decide_eq_true this.1, of_decide_eq_true this.2⟩
      · cases e
    · cases e
  · cases e
theorem b_sum : bootBuiltins "sum" = some (.builtin "sum") := by decide +kernel
noncomputable def minDD : List D → Option RV
  | [d, e] => if okO [d, e] = true then some (.fz (if ltd e d = some true then e else d)) else none
  | _ => none
theorem ltd_list {a b : D} {l : List D} (h : a = .list l ∨ b = .list l) : ltd a b = none := by
  rcases h with h | h <;> subst h <;> cases ‹D› <;> simp [ltd]
theorem dx_dv {O : Own} {K : PySem.W.Frag} {H : Hp} {v : V} {d : D} (h : DX O K H v d) (n : ∀ l, d ≠ .list l) : L3.DV O K H v d := by
  cases d with
  | list l => exact absurd rfl (n l)
  | _ => exact h
theorem cb_minDD {K : PySem.W.Frag} : CbP K (rMin2 K) minDD := by
  intro O H xs ds rv Q n hp e q
  unfold minDD at e
  split at e
  · rename_i d e1
    split at e
    · rename_i ho
      cases e
      have l1 := okO_lt ho (i := 0) (j := 0) rfl rfl
      have l2 := okO_lt ho (i := 1) (j := 1) rfl rfl
      have nl : ∀ z : D, (∃ r, ltd z z = some r) → ∀ l, z ≠ .list l := fun z ⟨r, hr⟩ l e => by rw [ltd_list (.inl e)] at hr; cases hr
      cases hp with
      | cons h1 h2 => cases h2 with
        | cons h2 h3 =>
          cases h3
          have p1 := dx_dv h1 (nl _ ⟨_, l1⟩)
          have p2 := dx_dv h2 (nl _ ⟨_, l2⟩)
          refine ⟨_, _, d, e1, rfl, p1.plain, p2.plain, ho, ?_⟩
          split
          · rename_i z; rw [if_pos z] at q; exact q.at p2
          · rename_i z; rw [if_neg z] at q; exact q.at p1
    · cases e
  · cases e
end L10
namespace L10
open PySem PyProof.Rows L2 L3 LD
section
variable {B O O' : Own} {K : PySem.W.Frag} {E : XK} {H H' H1 H2 : Hp} {α α' α1 α2 : List Addr} {ω ω' ω1 ω2 : Sto} {σ : L2.St} {ρ : SEnv} {v : V}
noncomputable def pairsL (ω : Sto) : SV → Option (List (Key × SV))
  | .rf i => match ω[i]? with
    | some (.lst xs) => (optAll fzD xs).bind fun ds => optAll pairD ds
    | _ => none
  | _ => none
theorem fzDs_ok : ∀ {vs : List V} {xs : List SV} {ds : List D}, VsOk O K H α vs xs → optAll fzD xs = some ds → L3.DVs O K H vs ds
  | _, _, _, .nil, e => by cases e; exact .nil
  | _, _, _, .cons (a := v) (b := x) (l₂ := xs) h t, e => by
    unfold optAll at e
    cases q : fzD x with
    | none => rw [q] at e; cases e
    | some d =>
      rw [q] at e
      dsimp only at e
      cases q2 : optAll fzD xs with
      | none => rw [q2] at e; cases e
      | some ds =>
        rw [q2] at e
        cases e
        exact .cons (fzD_ok q h) (fzDs_ok t q2)
noncomputable def ddctLS (fe : FES) : FES := fun ρ ω => (fe ρ ω).bind fun x ω1 => (RS.ofO ω1 (pairsL ω1 x)).bind fun ps ω1 => .ok (.rf ω1.length) (ω1 ++ [.dct (mergKS [] ps)])
theorem eos_ddctL {te : TE} {fe : FES} (he : EOS K E te fe) : EOS K E (tCB (rDictL K) (tCons te tNil)) (ddctLS fe) := by
  intro B σ H α ω ρ Q s sl w
  refine he B σ H α ω ρ _ s sl (w.bind.imp fun x α1 ω1 H1 e1 s1 w1 u hu => ?_)
  obtain ⟨ps, q, w2⟩ := WS.ofO w1
  have w2 : WS K E B H1 α1 ω1 (PQ B K Q) (.ok (.rf ω1.length) (ω1 ++ [.dct (mergKS [] ps)])) := w2
  cases x with
  | fz d => cases q
  | tp l => cases q
  | rf i =>
    obtain ⟨a, ha, rfl⟩ := hu
    unfold pairsL at q
    dsimp only at q
    cases z : ω1[i]? with
    | none => rw [z] at q; cases q
    | some c =>
      rw [z] at q
      cases c with
      | lst xs =>
        dsimp only at q
        obtain ⟨vs, h1, h2⟩ := s1.cel i a _ ha z
        cases q2 : optAll fzD xs with
        | none => rw [q2] at q; cases q
        | some ds =>
          rw [q2] at q
          have q : optAll pairD ds = some ps := q
          obtain ⟨kvs, k1, k2⟩ := pairs_ok (α := α1) (fzDs_ok h2 q2) q
          exact ⟨a, vs, kvs, rfl, SqL.of h1, k1, fun d hd => new_cell s1 hd w2 fun e => ⟨_, upd_same, merg_ok (Paired.mapP k2 fun _ _ r => ⟨r.1, r.2.evo e⟩) .nil⟩⟩
      | _ => cases q
noncomputable def dget2S (fd fk fx : FES) : FES := fun ρ ω => (fd ρ ω).bind fun o ω1 => (RS.ofO ω1 (dctAt ω1 o)).bind fun _ ω1 => (fk ρ ω1).bind fun x ω2 => (fx ρ ω2).bind fun z ω3 => (RS.ofO ω3 (keyV x)).bind fun k ω3 => (RS.ofO ω3 (dctAt ω3 o)).bind fun p ω3 => .ok ((getK p.2 k).getD z) ω3
theorem eos_dget2 {td tk tx : TE} {fd fk fx : FES} (hd : EOS K E td fd) (hk : EOS K E tk fk) (hx : EOS K E tx fx) : EOS K E (tDGet2 td tk tx) (dget2S fd fk fx) := by
  intro B σ H α ω ρ Q s sl w
  refine hd B σ H α ω ρ _ s sl (w.bind.imp fun o α1 ω1 H1 e1 s1 w1 u hu => ?_)
  obtain ⟨⟨i0, kvs0⟩, q0, w1⟩ := WS.ofO w1
  obtain ⟨_, a, ws0, _, rfl, g0, _⟩ := dct_at s1 hu q0
  refine ⟨a, rfl, .inl ⟨ws0, .inl g0⟩, ?_⟩
  refine hk B σ H1 α1 ω1 ρ _ s1 (sl.evo e1) (w1.bind.imp fun x α2 ω2 H2 e2 s2 w2 v hv => ?_)
  refine hx B σ H2 α2 ω2 ρ _ s2 (sl.evo (e1.trans e2)) (w2.bind.imp fun z α3 ω3 H3 e3 s3 w3 vz hz => ?_)
  obtain ⟨k, q1, w3⟩ := WS.ofO w3
  obtain ⟨⟨i, kvs⟩, q2, w3⟩ := WS.ofO w3
  obtain ⟨_, a', ws, ha, ea, g1, g2⟩ := dct_at s3 (hu.evo (e2.trans e3)) q2
  cases ea
  refine ⟨valV ws k, by rw [keyV_ok q1 hv]; exact DGet.k g1, WS.now s3 w3 _ ?_⟩
  obtain ⟨h1, h2⟩ := getK_ok (k := k) g2
  dsimp only
  cases q : getK kvs k with
  | none => rw [h2 q]; exact hz
  | some y => obtain ⟨u, e, h⟩ := h1 y q; rw [e]; exact h
end
end L10
namespace L10
open PySem PyProof.Rows L2 L3
section
variable {K : PySem.W.Frag} {E : XK}
noncomputable def pExtP (i j : Nat) : FE := fun ρ => (Res.ofO (asOw ρ[i]?)).bind fun ds => (Res.ofO (asOw ρ[j]?)).bind fun es => if ds.length + es.length ≤ 1000000 then .ok (.fz .none, ρ.set i (some (.ow (ds ++ es)))) else .bad
theorem eo_extP {i j : Nat} : EO K E (tBM K "list" rExtend (tVar i) (tCons (tVar j) tNil)) (pExtP i j) := by
  intro B H0 O σ H ρ Q R w
  obtain ⟨ds, q0, w⟩ := w.ofO
  obtain ⟨es, q1, w⟩ := w.ofO
  have q0 := asOw_ok q0
  have q1 := asOw_ok q1
  obtain ⟨v, g1, a, vs, rfl, g2, g3, g4, g5⟩ := R.slot i _ q0
  obtain ⟨v', k1, a', vs', rfl, k2, k3, k4, k5⟩ := R.slot j _ q1
  by_cases hl : ds.length + es.length ≤ 1000000
  · rw [if_pos hl] at w
    refine ⟨_, g1, .inl ⟨rfl, _, SqL.of g4⟩, _, k1, a, a', vs, vs', rfl, rfl, g4, k4, le1e6 (by rw [g5.length, k5.length]; exact hl), ?_⟩
    exact w O .non _ (Ev.mut g2 _) (R.mut q0 g1 g2 g3 (g5.append k5)) .non
  · rw [if_neg hl] at w
    exact w.elim
theorem ev_extP {i j : Nat} {ρ x : PEnv} {ds es : List D} (h0 : ρ[i]? = some (some (.ow ds))) (h1 : ρ[j]? = some (some (.ow es))) (hl : ds.length + es.length ≤ 1000000) (hx : ρ.set i (some (.ow (ds ++ es))) = x) : pExtP i j ρ = .ok (.fz .none, x) := by
  unfold pExtP
  rw [h0, asOw_some, ofO_some, Res.bind_ok, h1, asOw_some, ofO_some, Res.bind_ok, if_pos hl, hx]
end
end L10
local macro_rules | `(tactic| walk_at "px") => `(tactic| simp only [L3.runF, L3.sSeq, L3.sIf, L3.sAsg, L3.sRet, L3.sRetN, L3.sDrop, L3.sNext, L3.sFor, L3.sBreak, L3.sCont, L3.ret_fz, L3.ret_ow, L3.ret_pl, L3.retS_fz, L3.retS_ow, L3.pOp, L3.pUn, L3.var_eq, L3.var_fz, L3.var_ow, L3.pC, L3.pCB, L3.pCal, L3.pTup, L3.pLst, L3.pBool, L3.pAnd, L3.pOr, L3.pNot, L3.pIf, L3.pSl, L3.oSome, L3.oNone,
  L3.qAnd, L3.qOr, L3.qNot, L3.qTrue, L3.aNil, L3.aCons, L3.iRng, L3.iSeq, L3.iEnum, L3.gN_fz, L3.gN_ow, L3.gN_pl, L3.gT, L3.gsN, L3.gsC, L3.gIx, L3.pApp, L3.pPop, L3.pComp, L3.captL_nil, L3.captL_cons, L3.pIsi, L3.tyOf,
  L3.rdD_fz, L3.rdD_ow, L3.rdD_pl, L3.rdS_fz, L3.rdS_ow, L3.toD_fz, L3.toD_ow, L3.toD_pl, L3.toS_fz, L3.toS_ow, L3.rdDs_nil, L3.rdDs_fz, L3.rdDs_pl, L3.toDs_nil, L3.toDs_fz, L3.toDs_pl, L3.settle_fz, L3.settle_ow, L3.settle_pl, L3.asB_bool, L3.asI_int, L3.asT_tup, L3.asSeq_tup, L3.asSeq_lst, L3.asOw_some, L3.noEr_okk, L3.pv_fz, L3.pv_ow, L3.Res.bind_ok, L3.ofO_some, L3.forget, L3.keepF_fz, L3.keepF_ow, L3.keepF_none, L3.compT, L3.obind_some,
  L3.lenD_tup, L3.lenD_lst, L3.tupD, L3.lstD, L3.negD, L3.tr_ltt, L3.tr_le, L3.tr_gt, L3.tr_ge, L3.tr_add, L3.tr_sub, L3.eqD_int, L3.neD_int, L3.eqD_bool, L3.neD_bool,
  List.map_cons, List.map_nil, List.cons_append, List.nil_append, List.append_nil, List.replicate_succ, List.replicate_zero, List.length_cons, List.length_nil, List.getElem?_cons_zero, List.getElem?_cons_succ, List.set_cons_zero, List.set_cons_succ, Nat.reduceSub, Nat.reduceAdd, Nat.reduceLeDiff, Nat.reduceLT, Nat.zero_add, Nat.sub_self, Nat.zero_le, reduceIte, Option.map_some, Option.map_none, Bool.not_true, Bool.not_false, Bool.false_eq_true, if_true, if_false, ite_true, ite_false])
local macro_rules | `(tactic| walk_at "nm") => `(tactic| first | ((simp only [List.set_cons_zero, List.set_cons_succ]); rfl) | rfl)
local macro_rules | `(tactic| walk_at "evf") => `(tactic| first | with_reducible assumption | with_reducible exact L3.tr_add _ _ | with_reducible exact L3.tr_sub _ _ | with_reducible exact L3.tr_ltt _ _ | with_reducible exact L3.tr_le _ _ | with_reducible exact L3.tr_gt _ _ | with_reducible exact L3.tr_ge _ _ | with_reducible exact L3.eqD_nd _ _ | with_reducible exact L3.neD_nd _ _ | with_reducible exact L3.eqD_int _ _ | with_reducible exact L3.neD_int _ _ | with_reducible exact L3.eqD_bool _ _ | with_reducible exact L3.neD_bool _ _ | with_reducible exact L3.eqD_tup _ _ | with_reducible exact L3.neD_tup _ _ | with_reducible exact L3.eqD_lst _ _ | with_reducible exact L3.neD_lst _ _ | with_reducible exact L3.inD_nds _ _ | with_reducible exact L3.ninD_nds _ _ | with_reducible exact L3.inD_ndt _ _ | with_reducible exact L3.ninD_ndt _ _ | with_reducible exact L3.bandD_nd _ _ | with_reducible exact L3.borD_nd _ _ | with_reducible exact L3.shr_nd _ _ | with_reducible exact L3.ixt0 | with_reducible exact L3.ixt1 | with_reducible exact L3.ixt2 | with_reducible exact L3.ixl0 | with_reducible exact L3.ixl1 | with_reducible exact L3.pow18 | with_reducible exact L3.lenD_tup _ | with_reducible exact L3.lenD_lst _ | (with_reducible rfl))
local macro_rules | `(tactic| walk_at "ev") => `(tactic| first
  | with_reducible exact L3.ev_c
  | ((with_reducible apply L3.ev_var); rfl)
  | ((with_reducible apply L3.ev_own); rfl)
  | with_reducible exact L3.ev_nil
  | with_reducible exact L3.ev_onone
  | ((with_reducible apply L3.ev_op); (· walk_at "ev"); (· walk_at "ev"); (· rfl); (· rfl); (· walk_at "evf"))
  | ((with_reducible apply L3.ev_un); (· walk_at "ev"); (· rfl); (· rfl))
  | ((with_reducible apply L3.ev_cons); (· walk_at "ev"); (· walk_at "ev"))
  | ((with_reducible apply L3.ev_bool); (· walk_at "ev"); (· rfl))
  | ((with_reducible apply L3.ev_cb); (· walk_at "ev"); (· rfl); (· first | walk_at "evf" | rfl))
  | ((with_reducible apply L3.ev_cal); (· walk_at "ev"); (· rfl); (· rfl); (· with_reducible assumption))
  | ((with_reducible apply L3.ev_tup); (· walk_at "ev"); (· rfl); (· exact Nat.le_of_ble_eq_true rfl))
  | ((with_reducible apply L3.ev_lst); (· walk_at "ev"); (· rfl); (· exact Nat.le_of_ble_eq_true rfl))
  | ((with_reducible apply L3.ev_isi); (· walk_at "ev"); (· rfl); (· rfl))
  | ((with_reducible apply L3.ev_osome); (· walk_at "ev"); (· rfl))
  | ((with_reducible apply L3.ev_sl); (· walk_at "ev"); (· walk_at "ev"); (· walk_at "ev"); (· rfl); (· first | with_reducible assumption | rfl))
  | ((with_reducible apply L3.ev_qnot); (· walk_at "ev"))
  | ((with_reducible apply L3.ev_qand); (· walk_at "ev"); (· intro _; walk_at "ev"))
  | ((with_reducible apply L3.ev_qor); (· walk_at "ev"); (· intro _; walk_at "ev"))
  | ((with_reducible apply L3.ev_pnot); (· walk_at "ev"))
  | ((with_reducible apply L3.ev_pand); (· walk_at "ev"); (· intro _; walk_at "ev"))
  | ((with_reducible apply L3.ev_por); (· walk_at "ev"); (· intro _; walk_at "ev"))
  | ((with_reducible apply L3.ev_irng); (· walk_at "ev"); (· rfl); (· first | with_reducible assumption | rfl))
  | ((with_reducible apply L3.ev_iseq); (· walk_at "ev"); (· rfl); (· rfl))
  | ((with_reducible apply L3.ev_ienum); (· walk_at "ev"); (· rfl); (· rfl))
  | ((with_reducible apply L3.ev_app); (· rfl); (· walk_at "ev"); (· rfl); (· rfl); (· first | with_reducible assumption | (simp only [List.length_nil, List.length_cons, L3.nds_len] at *; omega)); (· walk_at "nm"))
  | ((with_reducible apply L3.ev_pop); (· rfl); (· walk_at "ev"); (· rfl); (· rfl); (· with_reducible assumption); (· with_reducible assumption); (· with_reducible assumption); (· walk_at "nm"))
  | ((with_reducible apply L3.st_asg); (· walk_at "ev"); (· rfl); (· walk_at "nm"))
  | ((with_reducible apply L3.st_drop); (· walk_at "ev"))
  | ((with_reducible apply L3.st_ret); (· walk_at "ev"); (· rfl)))
local macro_rules | `(tactic| walk_at "evb") => `(tactic| first
  | ((with_reducible apply L3.ev_opb); (· walk_at "ev"); (· walk_at "ev"); (· rfl); (· rfl); (· walk_at "evf"))
  | ((with_reducible apply L3.ev_calb); (· walk_at "ev"); (· rfl); (· rfl); (· with_reducible assumption))
  | ((with_reducible apply L3.ev_cbb); (· walk_at "ev"); (· rfl); (· first | walk_at "evf" | rfl))
  | walk_at "ev")
local macro_rules | `(tactic| walk_at "ev") => `(tactic| first
  | with_reducible assumption
  | ((with_reducible apply L3.ev_pand); (· walk_at "ev"); (· intro _; walk_at "evb"))
  | ((with_reducible apply L3.ev_por); (· walk_at "ev"); (· intro _; walk_at "evb"))
  | ((with_reducible apply L3.ev_chain); (· walk_at "ev"); (· walk_at "ev"); (· walk_at "ev"); (· rfl); (· rfl); (· rfl); (· walk_at "evf"); (· intro _; walk_at "evf"))
  | ((with_reducible apply L3.ev_izip); (· walk_at "ev"); (· rfl); (· rfl); (· rfl)))
local macro_rules | `(tactic| walk_at "go") => `(tactic| first
  | ((with_reducible apply L3.gs_asg); (· walk_at "ev"); (· rfl); (· walk_at "nm"); try walk_at "go")
  | ((with_reducible apply L3.gs_drop); (· walk_at "ev"); try walk_at "go")
  | ((with_reducible apply L3.gs_seq); try walk_at "go")
  | ((with_reducible apply L3.gs_next); try walk_at "go")
  | ((with_reducible apply L3.gs_ret); (· walk_at "ev"); (· rfl))
  | ((with_reducible apply L3.gs_if); (· walk_at "ev"))
  | ((with_reducible apply L3.gl_asg); (· walk_at "ev"); (· rfl); (· walk_at "nm"))
  | ((with_reducible apply L3.go_drop); (· walk_at "ev"))
  | ((with_reducible apply L3.go_ret); (· walk_at "ev"); (· rfl))
  | ((with_reducible apply L3.go_if); (· walk_at "ev"))
  | (with_reducible apply L3.go_next))
local macro_rules | `(tactic| walk_at "evp") => `(tactic| ((apply Eq.trans); (· walk_at "ev"); (· rfl)))
local macro_rules | `(tactic| walk_at "sv") => `(tactic| first
  | with_reducible assumption
  | ((with_reducible apply L10.sv_var); rfl)
  | with_reducible exact L10.sv_nil
  | ((with_reducible apply L10.sv_cons); (· walk_at "sv"); (· walk_at "sv"))
  | ((with_reducible apply L10.sv_lift); walk_at "ev")
  | ((with_reducible apply L10.sv_liftT); walk_at "ev")
  | ((with_reducible apply L10.sv_ixfz); (· walk_at "sv"); (· walk_at "sv"); (· walk_at "evf"))
  | ((with_reducible apply L10.sv_op); (· walk_at "sv"); (· walk_at "sv"); (· (with_reducible apply L10.bin_fz); walk_at "evf"))
  | ((with_reducible apply L10.sv_bool); walk_at "sv")
  | ((with_reducible apply L10.sv_notT); walk_at "sv"))
namespace K65
open PySem L2 L3
noncomputable def g__law_rows : FS := (sSeq (sAsg (pComp 2 [] (iSeq (pVar 0)) (gT 2 (gsC (gN 0) (gsC (gN 1) gsN))) qTrue (pTup (aCons (pLst (aCons (pVar 0) aNil)) (aCons (pVar 1) aNil)))) (gN 1))
  (sSeq (sAsg (pCB lstD (aCons (pVar 1) aNil)) (gN 2))
  (sSeq (sFor (iRng rng1 (aCons (pC (.int 3)) aNil)) (gN 3) (sSeq (sAsg (pLst aNil) (gN 4))
  (sSeq (sFor (iSeq (pVar 2)) (gT 2 (gsC (gN 5) (gsC (gN 6) gsN))) (sFor (iSeq (pVar 0)) (gT 2 (gsC (gN 7) (gsC (gN 8) gsN))) (sIf (pBool (pOp ltD (pOp addD (pCB lenD (aCons (pVar 6) aNil)) (pCB lenD (aCons (pVar 8) aNil))) (pC (.int 7)))) (sDrop (pApp 4 (pTup (aCons (pOp addD (pVar 5) (pLst (aCons (pVar 7) aNil))) (aCons (pOp addD (pVar 6) (pVar 8)) aNil))))) sNext)))
  (sSeq (sDrop (L10.pExtP 1 4))
  (sAsg (pVar 4) (gN 2))))))
  (sRet (pVar 1)))))
noncomputable def F__law_rows : FN := runF 9 g__law_rows
noncomputable def g__law_cell : FS := (sRet (pOp ixD (pOp addD (pSl slD (pVar 0) (oSome (pVar 1)) (oSome (pOp addD (pVar 1) (pC (.int 1))))) (pLst (aCons (pC (.int 0)) aNil))) (pC (.int 0))))
noncomputable def F__law_cell : FN := runF 2 g__law_cell
noncomputable def g__law_stirred : FS := (sSeq (sAsg (pOp addD (pOp modD (pVar 0) (pC (.int 1000000007))) (pOp mulE (pC (.int 13)) (pVar 1))) (gN 2))
  (sSeq (sAsg (pOp modD (pOp addD (pOp addD (pOp mulE (pVar 2) (pOp addD (pOp addD (pVar 2) (pOp mulE (pVar 1) (pVar 1))) (pC (.int 11)))) (pOp mulE (pC (.int 40487)) (pVar 1))) (pC (.int 7))) (pC (.int 1000000033))) (gN 2))
  (sRet (pOp divD (pOp modD (pOp addD (pOp mulE (pVar 2) (pOp addD (pOp divD (pVar 2) (pC (.int 7))) (pC (.int 31)))) (pC (.int 90001))) (pC (.int 999999937))) (pC (.int 3))))))
noncomputable def F__law_stirred : FN := runF 3 g__law_stirred
noncomputable def g__law_wide : FS := (sSeq (sIf (qOr (pBool (pOp ltD (pVar 0) (pC (.int 0)))) (pBool (pOp geD (pVar 0) (pOp powD (pC (.int 10)) (pC (.int 18)))))) (sRet (pCB max2D (aCons (pVar 0) (aCons (pOp subD (pC (.int 0)) (pVar 0)) aNil)))) sNext)
  (sRet (pCal F__law_stirred 2 (aCons (pCal F__law_stirred 2 (aCons (pVar 0) (aCons (pVar 1) aNil))) (aCons (pC (.int 3)) aNil)))))
noncomputable def F__law_wide : FN := runF 2 g__law_wide
noncomputable def g__law_book : FS := (sSeq (sAsg (pLst aNil) (gN 1))
  (sSeq (sFor (iRng rng1 (aCons (pOp addD (pC (.int 1)) (pOp modD (pCal F__law_wide 2 (aCons (pCal F__law_cell 2 (aCons (pVar 0) (aCons (pC (.int 0)) aNil))) (aCons (pC (.int 9)) aNil))) (pC (.int 4)))) aNil)) (gN 2) (sSeq (sAsg (pCal F__law_wide 2 (aCons (pCal F__law_cell 2 (aCons (pVar 0) (aCons (pOp addD (pC (.int 1)) (pVar 2)) aNil))) (aCons (pVar 2) aNil))) (gN 3))
  (sSeq (sAsg (pLst aNil) (gN 4))
  (sSeq (sFor (iRng rng1 (aCons (pOp addD (pC (.int 1)) (pOp modD (pVar 3) (pC (.int 3)))) aNil)) (gN 5) (sSeq (sAsg (pOp divD (pVar 3) (pC (.int 3))) (gN 3))
  (sDrop (pApp 4 (pOp ixD (pLst (aCons (pTup (aCons (pC (.int 0)) aNil)) (aCons (pTup (aCons (pC (.int 4)) (aCons (pC (.int 7)) aNil))) (aCons (pTup (aCons (pC (.int 11)) aNil)) aNil)))) (pOp modD (pVar 3) (pC (.int 3))))))))
  (sDrop (pApp 1 (pTup (aCons (pOp addS (pOp ixS (pC (.str "abcd")) (pVar 2)) (pOp L9.mulS (pC (.str "y")) (pOp modD (pOp divD (pVar 3) (pC (.int 3))) (pC (.int 4))))) (aCons (pCB tupD (aCons (pVar 4) aNil)) aNil)))))))))
  (sRet (pCB tupD (aCons (pVar 1) aNil)))))
noncomputable def F__law_book : FN := runF 6 g__law_book
noncomputable def g_begins : FS := (sRet (pOp eqD (pSl slE (pVar 1) oNone (oSome (pCB lenD (aCons (pVar 0) aNil)))) (pVar 0)))
noncomputable def F_begins : FN := runF 2 g_begins
noncomputable def g_first_ways : FS := (sSeq (sAsg (pLst aNil) (gN 1))
  (sSeq (sFor (iSeq (pVar 0)) (gT 2 (gsC (gN 2) (gsC (gN 3) gsN))) (sFor (iSeq (pVar 0)) (gT 2 (gsC (gN 4) (gsC (gN 5) gsN))) (sIf (qAnd (pBool (pOp neD (pVar 2) (pVar 4))) (pBool (pCal F_begins 2 (aCons (pVar 3) (aCons (pVar 5) aNil))))) (sDrop (pApp 1 (pTup (aCons (pCB lenD (aCons (pVar 5) aNil)) (aCons (pSl slE (pVar 5) (oSome (pCB lenD (aCons (pVar 3) aNil))) oNone) (aCons (pTup (aCons (pVar 4) aNil)) (aCons (pTup (aCons (pVar 2) aNil)) aNil))))))) sNext)))
  (sRet (pVar 1))))
noncomputable def F_first_ways : FN := runF 6 g_first_ways
noncomputable def g_next_ways : FS := (sSeq (sAsg (pOp ixD (pVar 1) (pC (.int 0))) (gN 2))
  (sSeq (sAsg (pOp ixD (pVar 1) (pC (.int 1))) (gN 3))
  (sSeq (sIf (pBool (pOp eqD (pVar 3) (pTup aNil))) (sRet (pLst aNil)) sNext)
  (sSeq (sAsg (pLst aNil) (gN 4))
  (sSeq (sFor (iSeq (pVar 0)) (gT 2 (gsC (gN 5) (gsC (gN 6) gsN))) (sIf (pBool (pCal F_begins 2 (aCons (pVar 6) (aCons (pVar 3) aNil)))) (sDrop (pApp 4 (pTup (aCons (pVar 2) (aCons (pSl slE (pVar 3) (oSome (pCB lenD (aCons (pVar 6) aNil))) oNone) (aCons (pOp ixD (pVar 1) (pC (.int 2))) (aCons (pOp addD (pOp ixD (pVar 1) (pC (.int 3))) (pTup (aCons (pVar 5) aNil))) aNil))))))) (sIf (pBool (pCal F_begins 2 (aCons (pVar 3) (aCons (pVar 6) aNil)))) (sSeq (sAsg (pSl slE (pVar 6) (oSome (pCB lenD (aCons (pVar 3) aNil))) oNone) (gN 7))
  (sDrop (pApp 4 (pTup (aCons (pOp addD (pVar 2) (pCB lenD (aCons (pVar 7) aNil))) (aCons (pVar 7) (aCons (pOp addD (pOp ixD (pVar 1) (pC (.int 3))) (pTup (aCons (pVar 5) aNil))) (aCons (pOp ixD (pVar 1) (pC (.int 2))) aNil)))))))) sNext)))
  (sRet (pVar 4)))))))
noncomputable def F_next_ways : FN := runF 8 g_next_ways
end K65
namespace K65
open PySem L2 L3 L10
noncomputable def g_offer : FSS := (forS (iseqS (varS 1)) (gnS 2) (seqS (asgS (liftP (pOp ixD (pVar 2) (pC (.int 1)))) (gnS 3))
  (ddputS (varS 0) (liftP (pVar 3)) (cbS minDD (consS (liftP (pVar 2)) (consS (ddget2S (varS 0) (liftP (pVar 3)) (liftP (pVar 2))) nilS))))))
noncomputable def F_offer : FNS := runS 4 g_offer
noncomputable def g_cheapest_ways : FSS := (seqS (asgS ddnewS (gnS 1))
  (seqS (asgS ddnewS (gnS 2))
  (seqS (dropS (calS0 F_offer 2 (consS (varS 2) (consS (liftP (pCal F_first_ways 1 (aCons (pVar 0) aNil))) nilS))))
  (seqS (whileS (boolS (ddneS (varS 2))) (seqS (asgS (ddminS (varS 2)) (gnS 3))
  (seqS (ddputS (varS 1) (liftP (pOp ixD (pVar 3) (pC (.int 1)))) (ddpopS (varS 2) (liftP (pOp ixD (pVar 3) (pC (.int 1))))))
  (dropS (calS0 F_offer 2 (consS (varS 2) (consS (compS 1 [1] (liftI (iSeq (pCal F_next_ways 2 (aCons (pVar 0) (aCons (pVar 3) aNil))))) (gnS 0) (boolS (ddinS true (liftP (pOp ixD (pVar 0) (pC (.int 1)))) (varS 1))) (liftP (pVar 0))) nilS)))))))
  (retS (varS 1))))))
noncomputable def F_cheapest_ways : FNS := runS 4 g_cheapest_ways
noncomputable def g_twofold : FSS := (seqS (asgS (calS0 F_cheapest_ways 1 (consS (liftP (pVar 0)) nilS)) (gnS 1))
  (seqS (iffS (boolS (ddinS true (liftP (pTup aNil)) (varS 1))) (retS (liftP (pC .none))) nextS)
  (retS (tupS (consS (cbS lstD (consS (ixS (ddgetS (varS 1) (liftP (pTup aNil))) (liftP (pC (.int 2)))) nilS)) (consS (cbS lstD (consS (ixS (ddgetS (varS 1) (liftP (pTup aNil))) (liftP (pC (.int 3)))) nilS)) nilS))))))
noncomputable def F_twofold : FNS := runS 2 g_twofold
noncomputable def g_law : FSS := (seqS (asgS (liftP (pCal F__law_book 1 (aCons (pVar 0) aNil))) (gnS 1))
  (seqS (asgS ddnewS (gnS 2))
  (seqS (asgS (liftP (pC .none)) (gnS 3))
  (seqS (forS (liftI (iSeq (pCal F__law_rows 1 (aCons (pVar 1) aNil)))) (gtS 2 (gscS (gnS 4) (gscS (gnS 5) gs0S))) (seqS (iffS (andT (boolS (ddinS false (liftP (pVar 5)) (varS 2))) (liftT (qOr (pBool (pOp isnD (pVar 3) (pC .none))) (pBool (pOp ltD (pCB lenD (aCons (pVar 5) aNil)) (pVar 3)))))) (asgS (liftP (pCB lenD (aCons (pVar 5) aNil))) (gnS 3)) nextS)
  (ddputS (varS 2) (liftP (pVar 5)) (liftP (pVar 4)))))
  (seqS (asgS (frzS (calS0 F_twofold 1 (consS (liftP (pVar 1)) nilS))) (gnS 6))
  (seqS (iffS (liftT (pBool (pOp isnD (pVar 6) (pC .none)))) (retS (liftP (pOp isnD (pVar 3) (pC .none)))) nextS)
  (seqS (asgS (ddctLS (liftP (pComp 2 [] (iSeq (pVar 1)) (gT 2 (gsC (gN 0) (gsC (gN 1) gsN))) qTrue (pTup (aCons (pVar 0) (aCons (pCB lenD (aCons (pVar 1) aNil)) aNil)))))) (gnS 7))
  (seqS (asgS (cbS sumLD (consS (compS 1 [7] (liftI (iSeq (pOp ixD (pVar 6) (pC (.int 0))))) (gnS 0) trueT (dget2S (varS 1) (liftP (pVar 0)) (liftP (pC (.int 0))))) nilS)) (gnS 8))
  (retS (liftP (pOr (pOp isnD (pVar 3) (pC .none)) (pOp geD (pVar 3) (pVar 8)))))))))))))
noncomputable def F_law : FNS := runS 9 g_law
end K65
namespace K65
open PySem L2 L3 L10
noncomputable def cutI (ns : List Int) (lo hi : Option Int) : List Int := (ns.drop (HT.sIx ns.length 0 lo)).take (HT.sIx ns.length ns.length hi - HT.sIx ns.length 0 lo)
theorem cell_ok (ns : List Int) (k : Int) (hk : 0 ≤ k) (hl : ns.length ≤ 63) : ∃ c : Int, F__law_cell [.list (ns.map .int), .int k] = .ok (.fz (.int c)) := by
  unfold F__law_cell g__law_cell
  have e1 : slD (.list (ns.map .int)) (some k) (some (k + 1)) = some (.ow (cutD (ns.map .int) (some k) (some (k + 1)))) := rfl
  have hc : cutD (ns.map PyData.int) (some k) (some (k + 1)) = (cutI ns (some k) (some (k + 1))).map .int := by unfold cutD cutI; rw [List.length_map, List.map_take, List.map_drop]
  rw [hc] at e1
  have hcl : (cutI ns (some k) (some (k + 1))).length ≤ 63 := by
    unfold cutI
    rw [List.length_take, List.length_drop]
    omega
  generalize cutI ns (some k) (some (k + 1)) = cs at e1 hcl
  have e2 : addD (.list (cs.map .int)) (.list [.int 0]) = some (.ow (cs.map .int ++ [.int 0])) := by
    show (if (cs.map PyData.int).length + 1 ≤ 1000000 then _ else _) = _
    rw [List.length_map, if_pos (by omega)]
  cases cs with
  | nil =>
    have e3 : ixD (.list (([] : List Int).map PyData.int ++ [.int 0])) (.int 0) = some (.fz (.int 0)) := ixl0
    exact ⟨0, go_val (ρ := [some (.fz (.list (ns.map .int))), some (.fz (.int k))]) rfl (go_ret (by walk_at "ev") rfl rfl)⟩
  | cons c r =>
    have e3 : ixD (.list ((c :: r).map PyData.int ++ [.int 0])) (.int 0) = some (.fz (.int c)) := ixl0
    exact ⟨c, go_val (ρ := [some (.fz (.list (ns.map .int))), some (.fz (.int k))]) rfl (go_ret (by walk_at "ev") rfl rfl)⟩
theorem stirred_ok (c s : Int) (h0 : 0 ≤ s) (h1 : s ≤ 1000) : ∃ r : Int, 0 ≤ r ∧ F__law_stirred [.int c, .int s] = .ok (.fz (.int r)) := by
  unfold F__law_stirred g__law_stirred
  have b1 : 0 ≤ c % 1000000007 ∧ c % 1000000007 < 1000000007 := ⟨Int.emod_nonneg _ (by decide), Int.emod_lt_of_pos _ (by decide)⟩
  have m1 : modD (.int c) (.int 1000000007) = some (.fz (.int (c % 1000000007))) := tr_mod (by decide)
  have m2 : mulE (.int 13) (.int s) = some (.fz (.int (13 * s))) := trE_mulL ⟨by omega, by omega⟩
  generalize c % 1000000007 = x at b1 m1
  have m3 : mulE (.int s) (.int s) = some (.fz (.int (s * s))) := trE_mulL ⟨by omega, by omega⟩
  generalize s * s = ss at m3
  have m4 : mulE (.int (x + 13 * s)) (.int (x + 13 * s + ss + 11)) = some (.fz (.int ((x + 13 * s) * (x + 13 * s + ss + 11)))) := trE_mulL ⟨by omega, by omega⟩
  generalize (x + 13 * s) * (x + 13 * s + ss + 11) = y at m4
  have m5 : mulE (.int 40487) (.int s) = some (.fz (.int (40487 * s))) := trE_mulL ⟨by omega, by omega⟩
  have b2 : 0 ≤ (y + 40487 * s + 7) % 1000000033 ∧ (y + 40487 * s + 7) % 1000000033 < 1000000033 := ⟨Int.emod_nonneg _ (by decide), Int.emod_lt_of_pos _ (by decide)⟩
  have m6 : modD (.int (y + 40487 * s + 7)) (.int 1000000033) = some (.fz (.int ((y + 40487 * s + 7) % 1000000033))) := tr_mod (by decide)
  generalize (y + 40487 * s + 7) % 1000000033 = z at b2 m6
  have m7 : divD (.int z) (.int 7) = some (.fz (.int (z / 7))) := tr_div ⟨by omega, by omega⟩
  have m8 : mulE (.int z) (.int (z / 7 + 31)) = some (.fz (.int (z * (z / 7 + 31)))) := trE_mulL ⟨by omega, by omega⟩
  generalize z * (z / 7 + 31) = u at m8
  have b3 : 0 ≤ (u + 90001) % 999999937 := Int.emod_nonneg _ (by decide)
  have m9 : modD (.int (u + 90001)) (.int 999999937) = some (.fz (.int ((u + 90001) % 999999937))) := tr_mod (by decide)
  have m10 : divD (.int ((u + 90001) % 999999937)) (.int 3) = some (.fz (.int ((u + 90001) % 999999937 / 3))) := tr_div ⟨by omega, by omega⟩
  refine ⟨(u + 90001) % 999999937 / 3, by omega, go_val (ρ := [some (.fz (.int c)), some (.fz (.int s)), none]) rfl (go_seq (go_asg (by walk_at "ev") rfl (go_seq (go_asg (by walk_at "ev") rfl (go_ret (by walk_at "ev") rfl rfl)))))⟩
theorem max_nn (c : Int) : 0 ≤ if 0 - c > c then 0 - c else c := by split <;> omega
theorem wide_ok (c s : Int) (h0 : 0 ≤ s) (h1 : s ≤ 1000) : ∃ r : Int, 0 ≤ r ∧ F__law_wide [.int c, .int s] = .ok (.fz (.int r)) := by
  unfold F__law_wide g__law_wide
  obtain ⟨r, hr, er⟩ := stirred_ok c s h0 h1
  obtain ⟨q, hq, eq⟩ := stirred_ok r 3 (by decide) (by decide)
  have em : max2D [.int c, .int (0 - c)] = some (.fz (.int (if 0 - c > c then 0 - c else c))) := rfl
  have nn := max_nn c
  generalize (if 0 - c > c then 0 - c else c) = mx at em nn
  obtain ⟨rv, e, t⟩ := go_run (ds := [.int c, .int s]) (ρ := [some (.fz (.int c)), some (.fz (.int s))]) (n := 2) (g := g__law_wide) (T := fun v => ∃ r : Int, 0 ≤ r ∧ v = .fz (.int r)) rfl
    (go_seq (go_if (by walk_at "ev") (fun _ => go_ret (by walk_at "ev") rfl ⟨mx, nn, rfl⟩) (fun _ => go_next (go_ret (by walk_at "ev") rfl ⟨q, hq, rfl⟩))))
  obtain ⟨r, h, rfl⟩ := t
  exact ⟨r, h, e⟩
noncomputable def tx (l : List Nat) : Str := ⟨l.toArray⟩
theorem tx_add (a b : List Nat) : tx a ++ tx b = tx (a ++ b) := by
  show (⟨a.toArray ++ b.toArray⟩ : Str) = ⟨(a ++ b).toArray⟩
  rw [List.append_toArray]
theorem tx_len (l : List Nat) : (tx l).length = l.length := by
  show l.toArray.size = _
  rw [List.size_toArray]
theorem tx_ok {l : List Nat} (h : ∀ c ∈ l, c < 1114112) : PyData.strOk (tx l) = true := by
  show l.toArray.all (fun c => decide (c < 0x110000)) = true
  rw [← Array.all_toList, List.all_eq_true]
  exact fun c hc => decide_eq_true (h c hc)
theorem tx_inj {a b : List Nat} (h : tx a = tx b) : a = b := congrArg (fun z : Str => z.cps.toList) h
theorem addS_tx {a b : List Nat} (h : a.length + b.length ≤ 1000) : addS (.str (tx a)) (.str (tx b)) = some (.fz (.str (tx (a ++ b)))) := by
  show (if (tx a).length + (tx b).length ≤ 1000000 then some (RV.fz (.str (tx a ++ tx b))) else none) = _
  rw [tx_len, tx_len, if_pos (by omega), tx_add]
theorem rep_cat (c : Nat) : ∀ (n : Nat) (a : Array Nat), (List.replicate n (#[c] : Array Nat)).foldl (· ++ ·) a = a ++ (List.replicate n c).toArray
  | 0, a => by simp
  | n + 1, a => by
    rw [List.replicate_succ, List.foldl_cons, rep_cat c n, List.replicate_succ]
    apply Array.toList_inj.mp
    simp
theorem tx_mul (c : Nat) (n : Nat) : Txt.mul (tx [c]) (n : Int) = tx (List.replicate n c) := by
  unfold Txt.mul
  by_cases h0 : n = 0
  · subst h0; rfl
  rw [if_neg (by omega)]
  by_cases h1 : n = 1
  · subst h1; rfl
  rw [if_neg (by
    intro z
    have z : (((n : Int) == 1) || ((tx [c]).length == 0)) = true := z
    rw [tx_len] at z
    simp at z
    omega)]
  show (⟨(List.replicate (n : Int).toNat (#[c] : Array Nat)).foldl (· ++ ·) #[]⟩ : Str) = _
  rw [rep_cat, Int.toNat_natCast]
  simp
  rfl
theorem mulS_tx {c : Nat} {i : Int} (h0 : 0 ≤ i) (h1 : i ≤ 1000) : L9.mulS (.str (tx [c])) (.int i) = some (.fz (.str (tx (List.replicate i.toNat c)))) := by
  show (if (tx [c]).length ≤ 1000 ∧ 0 ≤ i ∧ i ≤ 1000 then some (RV.fz (.str (Txt.mul (tx [c]) i))) else none) = _
  rw [if_pos ⟨by rw [tx_len]; exact Nat.le_of_ble_eq_true rfl, h0, h1⟩]
  obtain ⟨n, rfl⟩ : ∃ n : Nat, i = (n : Int) := ⟨i.toNat, by omega⟩
  rw [tx_mul, Int.toNat_natCast]
noncomputable abbrev Wd := List Nat × List (List Int)
noncomputable def kD (ks : List Int) : D := .tuple (ks.map .int)
noncomputable def wD (e : Wd) : D := .tuple [.str (tx e.1), .tuple (e.2.map kD)]
noncomputable def bkD (B : List Wd) : D := .tuple (B.map wD)
theorem comp_mg {α : Type} {f g : α → D} {gt : FG} {fe : FE} {ρ0 : PEnv} (I : PEnv → Prop) (xs : List α) (hl : xs.length ≤ 1000000) (h0 : I ρ0) (hs : ∀ x ∈ xs, ∀ ρ, I ρ → ∃ ρ', compT gt qTrue fe (f x) ρ = .ok (some (g x), ρ') ∧ I ρ') : noEr (compP gt qTrue fe (xs.map f) ρ0 []) = .ok (xs.map g) := by
  obtain ⟨ys, h1, h2, h3⟩ := comp_map (gt := gt) (ft := qTrue) (fe := fe) (ds := xs.map f) (ρ := ρ0) I (fun i y => ∃ x, xs[i]? = some x ∧ y = g x) h0 (by rw [List.length_map]; exact hl) (by
    intro i d hi ρ hI
    rw [List.getElem?_map] at hi
    cases q : xs[i]? with
    | none => rw [q] at hi; cases hi
    | some x =>
      obtain rfl : d = f x := by rw [q] at hi; exact (Option.some.inj hi).symm
      obtain ⟨ρ', e, hI'⟩ := hs x (List.mem_of_getElem? q) ρ hI
      exact ⟨_, _, e, hI', x, rfl, rfl⟩)
  rw [h1]
  congr 1
  refine List.ext_getElem? fun i => ?_
  rw [List.getElem?_map]
  cases q : ys[i]? with
  | none =>
    have : xs.length ≤ i := by
      have := List.getElem?_eq_none_iff.mp q
      rw [h2, List.length_map] at this
      exact this
    rw [List.getElem?_eq_none this]; rfl
  | some y =>
    obtain ⟨x, h4, rfl⟩ := h3 i y q
    rw [h4]; rfl
theorem eqv_str (a b : List Nat) : PyData.eqv (.str (tx a)) (.str (tx b)) = decide (a = b) := by
  show decide (tx a = tx b) = _
  exact decide_eq_decide.mpr ⟨tx_inj, fun h => by rw [h]⟩
section
variable {n : Nat} {B : List Wd}
theorem lenB (B : List Wd) : lenD [bkD B] = some (.fz (.int (B.length : Int))) := by
  show some (RV.fz (.int ((B.map wD).length : Int))) = _
  rw [List.length_map]
end
theorem okI : ∀ ks : List Int, PyData.canLayAll0 (ks.map PyData.int) = true
  | [] => rfl
  | k :: r => by show (true && PyData.canLayAll0 (r.map PyData.int)) = true; rw [okI r]; rfl
theorem depI : ∀ ks : List Int, PyData.depthAll (ks.map PyData.int) = 0
  | [] => rfl
  | k :: r => by show max 0 (PyData.depthAll (r.map PyData.int)) = 0; rw [depI r]; rfl
theorem eqvI : ∀ a b : List Int, PyData.eqvAll (a.map PyData.int) (b.map PyData.int) = decide (a = b)
  | [], [] => rfl
  | [], _ :: _ => rfl
  | _ :: _, [] => rfl
  | x :: r, y :: t => by
    show (decide (x = y) && PyData.eqvAll (r.map PyData.int) (t.map PyData.int)) = _
    rw [eqvI r t]
    by_cases h : x = y <;> by_cases g : r = t <;> simp [h, g]
section
variable {n : Nat} {B : List Wd}
theorem lay_ks : ∀ ss : List (List Int), PyData.canLayAll0 (ss.map kD) = true
  | [] => rfl
  | ks :: r => by show (PyData.canLayAll0 (ks.map PyData.int) && PyData.canLayAll0 (r.map kD)) = true; rw [okI, lay_ks r]; rfl
theorem dep_ks : ∀ ss : List (List Int), PyData.depthAll (ss.map kD) ≤ 1
  | [] => Nat.zero_le _
  | ks :: r => by
    show max (PyData.depthAll (ks.map PyData.int) + 1) (PyData.depthAll (r.map kD)) ≤ 1
    rw [depI]
    have := dep_ks r
    omega
end
structure UpK (i : Nat) (ks : List Int) : Prop where
  pw : ks.Pairwise (· < ·)
  lo : ∀ k ∈ ks, 0 ≤ k ∧ k < i
theorem cut_to (xs : List D) (p : Nat) : slE (.tuple xs) none (some (p : Int)) = some (.fz (.tuple (xs.take p))) := by
  show some (RV.fz (.tuple (cutD xs none (some (p : Int))))) = _
  unfold cutD
  rw [HT.sIx_none, List.drop_zero, HT.sIx_nat, Nat.sub_zero]
  congr 3
  rw [List.take_eq_take_iff]
  omega
theorem cut_from (xs : List D) (p : Nat) : slE (.tuple xs) (some (p : Int)) none = some (.fz (.tuple (xs.drop p))) := by
  show some (RV.fz (.tuple (cutD xs (some (p : Int)) none))) = _
  unfold cutD
  rw [HT.sIx_none, HT.sIx_nat]
  congr 3
  by_cases h : p ≤ xs.length
  · rw [Nat.min_eq_left h, List.take_of_length_le (by rw [List.length_drop]; exact Nat.le_refl _)]
  · rw [Nat.min_eq_right (by omega), Nat.sub_self, List.take_zero, List.drop_of_length_le (by omega)]
theorem getK_put (kvs : List (Key × SV)) (k j : Key) (x : SV) : getK (putKS kvs k x) j = if j = k then some x else getK kvs j := by
  unfold putKS
  by_cases a : (kvs.any fun kv => decide (kv.1 = k)) = true
  · rw [if_pos a]
    obtain ⟨q, hq, hk⟩ := List.any_eq_true.mp a
    have hk := of_decide_eq_true hk
    have key : ∀ l : List (Key × SV), getK (l.map fun kv => if kv.1 = k then (kv.1, x) else kv) j = if j = k then (getK l j).map (fun _ => x) else getK l j := by
      intro l
      induction l with
      | nil => unfold getK; simp
      | cons p r ih =>
        unfold getK at ih ⊢
        rw [List.map_cons, List.find?_cons, List.find?_cons]
        by_cases hp : p.1 = k
        · rw [if_pos hp]
          by_cases hj : p.1 = j
          · rw [decide_eq_true hj, if_pos (hj.symm.trans hp)]; rfl
          · rw [decide_eq_false hj]; exact ih
        · rw [if_neg hp]
          by_cases hj : p.1 = j
          · rw [decide_eq_true hj, if_neg (fun z => hp (hj.trans z))]
          · rw [decide_eq_false hj]; exact ih
    rw [key]
    by_cases hj : j = k
    · rw [if_pos hj, if_pos hj]
      have : ∃ y, getK kvs j = some y := by
        unfold getK
        rw [hj]
        cases h : kvs.find? fun kv => decide (kv.1 = k) with
        | none => exact absurd (List.find?_eq_none.mp h q hq) (by rw [decide_eq_true hk]; simp)
        | some p => exact ⟨_, rfl⟩
      obtain ⟨y, hy⟩ := this
      rw [hy]; rfl
    · rw [if_neg hj, if_neg hj]
  · rw [if_neg a]
    have hn : ∀ q ∈ kvs, ¬ q.1 = k := fun q hq z => a (List.any_eq_true.mpr ⟨q, hq, decide_eq_true z⟩)
    unfold getK
    rw [List.find?_append]
    by_cases hj : j = k
    · rw [if_pos hj, List.find?_eq_none.mpr fun q hq => by rw [hj]; simp [hn q hq], Option.none_or, List.find?_cons, decide_eq_true (show k = j from hj.symm)]; rfl
    · rw [if_neg hj, List.find?_cons, decide_eq_false (show ¬ k = j from fun z => hj z.symm), List.find?_nil, Option.or_none]
theorem put_len (kvs : List (Key × SV)) (k : Key) (x : SV) : (putKS kvs k x).length ≤ kvs.length + 1 := by
  unfold putKS
  split
  · rw [List.length_map]; omega
  · rw [List.length_append]; exact Nat.le_refl _
noncomputable def sD (ss : List (List Int)) : D := .tuple (ss.map kD)
noncomputable def tD (w : List Nat) : D := .str (tx w)
theorem eqv_ss : ∀ a b : List (List Int), PyData.eqvAll (a.map kD) (b.map kD) = decide (a = b)
  | [], [] => rfl
  | [], _ :: _ => rfl
  | _ :: _, [] => rfl
  | x :: r, y :: t => by
    show (PyData.eqvAll (x.map PyData.int) (y.map PyData.int) && PyData.eqvAll (r.map kD) (t.map kD)) = _
    rw [eqvI, eqv_ss r t]
    by_cases h1 : x = y
    · by_cases h2 : r = t
      · rw [decide_eq_true h1, decide_eq_true h2, decide_eq_true (by rw [h1, h2])]; rfl
      · rw [decide_eq_false h2, decide_eq_false (fun z => h2 (List.cons.inj z).2), Bool.and_false]
    · rw [decide_eq_false h1, decide_eq_false (fun z => h1 (List.cons.inj z).1)]; rfl
theorem ok_ss (a b : List (List Int)) : (okD (sD a) && (sD b).canLay0) = true := by
  show ((PyData.canLayAll0 (a.map kD) && decide (PyData.depthAll (a.map kD) + 1 ≤ 64)) && PyData.canLayAll0 (b.map kD)) = true
  have := dep_ks a
  rw [lay_ks, lay_ks, decide_eq_true (by omega)]; rfl
theorem eqD_ss (a b : List (List Int)) : eqD (sD a) (sD b) = some (.fz (.bool (decide (a = b)))) := by
  unfold eqD
  rw [if_pos (ok_ss a b), show PyData.eqv (sD a) (sD b) = _ from eqv_ss a b]
theorem neD_ss (a b : List (List Int)) : neD (sD a) (sD b) = some (.fz (.bool (!decide (a = b)))) := by
  unfold neD
  rw [if_pos (ok_ss a b), show PyData.eqv (sD a) (sD b) = _ from eqv_ss a b]
theorem len_ss (a : List (List Int)) : lenD [sD a] = some (.fz (nd a.length)) := by
  show some (RV.fz (.int ((a.map kD).length : Int))) = _
  rw [List.length_map]
noncomputable def look : List Wd → List Nat → Option (List (List Int))
  | [], _ => none
  | e :: r, w => if e.1 = w then some e.2 else look r w
theorem look_cons (e : Wd) (r : List Wd) (w : List Nat) : look (e :: r) w = if e.1 = w then some e.2 else look r w := rfl
noncomputable def wr (B : List Wd) (ws : List (List Nat)) : List (List Int) := (ws.map fun w => (look B w).getD []).flatten
theorem look_mem : ∀ {B : List Wd} {w : List Nat} {s : List (List Int)}, look B w = some s → (w, s) ∈ B
  | e :: r, w, s, h => by
    unfold look at h
    by_cases q : e.1 = w
    · rw [if_pos q] at h
      cases h
      rw [← q]; exact List.mem_cons_self
    · rw [if_neg q] at h
      exact List.mem_cons_of_mem _ (look_mem h)
theorem look_of : ∀ {B : List Wd} {e : Wd}, (B.map (·.1)).Nodup → e ∈ B → look B e.1 = some e.2
  | a :: r, e, hn, h => by
    rw [List.map_cons, List.nodup_cons] at hn
    unfold look
    rcases List.mem_cons.mp h with h | h
    · subst h; rw [if_pos rfl]
    · rw [if_neg (fun z => hn.1 (by rw [z]; exact List.mem_map.mpr ⟨e, h, rfl⟩))]
      exact look_of hn.2 h
theorem look_none : ∀ {B : List Wd} {w : List Nat}, w ∉ B.map (·.1) → look B w = none
  | [], _, _ => rfl
  | a :: r, w, h => by
    rw [List.map_cons, List.mem_cons, not_or] at h
    unfold look
    rw [if_neg (fun z => h.1 z.symm)]
    exact look_none h.2
theorem look_in {B : List Wd} {w : List Nat} (h : w ∈ B.map (·.1)) : ∃ s, look B w = some s := by
  cases q : look B w with
  | some s => exact ⟨s, rfl⟩
  | none =>
    exfalso
    revert h q
    induction B with
    | nil => intro h; simp at h
    | cons a r ih =>
      intro h q
      unfold look at q
      by_cases z : a.1 = w
      · rw [if_pos z] at q; cases q
      · rw [if_neg z] at q
        rw [List.map_cons, List.mem_cons] at h
        exact ih (h.resolve_left fun y => z y.symm) q
theorem wr_nil (B : List Wd) : wr B [] = [] := rfl
theorem wr_snoc (B : List Wd) (ws : List (List Nat)) (w : List Nat) : wr B (ws ++ [w]) = wr B ws ++ (look B w).getD [] := by
  unfold wr
  rw [List.map_append, List.flatten_append, List.map_singleton, List.flatten_singleton]
theorem wr_cons (B : List Wd) (ws : List (List Nat)) (w : List Nat) : wr B (w :: ws) = (look B w).getD [] ++ wr B ws := rfl
noncomputable def Ins (B : List Wd) (ws : List (List Nat)) : Prop := ∀ w ∈ ws, w ∈ B.map (·.1)
noncomputable abbrev Rs := List (List Int)
structure Wy where
  p : Nat
  r : Rs
  lo : List (List Nat)
  sh : List (List Nat)
noncomputable def bg (a b : Rs) : Bool := decide (b.take a.length = a)
noncomputable def firstOf (e f : Wd) : Option Wy := if e.1 ≠ f.1 ∧ bg e.2 f.2 = true then some ⟨f.2.length, f.2.drop e.2.length, [f.1], [e.1]⟩ else none
noncomputable def firstW (B : List Wd) : List Wy := B.flatMap fun e => B.filterMap (firstOf e)
noncomputable def nx (w : Wy) (e : Wd) : Option Wy := if bg e.2 w.r = true then some ⟨w.p, w.r.drop e.2.length, w.lo, w.sh ++ [e.1]⟩ else if bg w.r e.2 = true then some ⟨w.p + (e.2.drop w.r.length).length, e.2.drop w.r.length, w.sh ++ [e.1], w.lo⟩ else none
noncomputable def nextW (B : List Wd) (w : Wy) : List Wy := if w.r = [] then [] else B.filterMap (nx w)
structure Bo (B : List Wd) : Prop where
  l4 : B.length ≤ 4
  nd : (B.map (·.1)).Nodup
  s1 : ∀ e ∈ B, 1 ≤ e.2.length
  s3 : ∀ e ∈ B, e.2.length ≤ 3
  ch : ∀ e ∈ B, ∀ c ∈ e.1, c < 1114112
theorem bg_iff {a b : Rs} : bg a b = true ↔ ∃ c, b = a ++ c := by
  unfold bg
  rw [decide_eq_true_iff]
  constructor
  · intro h; exact ⟨b.drop a.length, by rw [← h, List.length_take]; conv => lhs; rw [← List.take_append_drop a.length b]
                                        congr 1
                                        rw [← List.length_take, h]⟩
  · rintro ⟨c, rfl⟩; simp
theorem app_cmp {a b c d : Rs} (h : a ++ c = b ++ d) (hl : a.length ≤ b.length) : ∃ o, b = a ++ o ∧ c = o ++ d := by
  have h1 : b = a ++ b.drop a.length := by
    have := congrArg (List.take a.length) h
    rw [List.take_left, List.take_append_of_le_length hl] at this
    conv => lhs; rw [← List.take_append_drop a.length b]
    rw [← this]
  refine ⟨b.drop a.length, h1, ?_⟩
  rw [h1, List.append_assoc] at h
  exact List.append_cancel_left h
section
variable {B : List Wd} {G : Rs → Nat → Prop}
theorem walk (hB : Bo B) (mono : ∀ r p q, G r p → p ≤ q → G r q)
    (h2 : ∀ r p, r ≠ [] → G r p → ∀ e ∈ B, (bg e.2 r = true → G (r.drop e.2.length) p) ∧ (¬ bg e.2 r = true → bg r e.2 = true → G (e.2.drop r.length) (p + (e.2.drop r.length).length))) :
    ∀ (n : Nat) (xs ys : List (List Nat)) (r : Rs) (p : Nat), xs.length + ys.length = n → Ins B xs → Ins B ys → wr B ys = r ++ wr B xs → G r p → G [] (p + (wr B xs).length) := by
  intro n
  induction n with
  | zero =>
    intro xs ys r p hn ix iy h g
    have e1 : xs = [] := List.length_eq_zero_iff.mp (by omega)
    have e2 : ys = [] := List.length_eq_zero_iff.mp (by omega)
    subst e1 e2
    rw [wr_nil, List.append_nil] at h
    rw [← h] at g
    exact g
  | succ n ih =>
    intro xs ys r p hn ix iy h g
    by_cases hr : r = []
    · subst hr; exact mono _ _ _ g (by omega)
    · cases ys with
      | nil => rw [wr_nil] at h; exact absurd (List.append_eq_nil_iff.mp h.symm).1 hr
      | cons w ys =>
        obtain ⟨s, hs⟩ := look_in (iy w (List.mem_cons_self ..))
        have hm := look_mem hs
        have iy' : Ins B ys := fun z hz => iy z (List.mem_cons_of_mem _ hz)
        rw [wr_cons, hs] at h
        have h : s ++ wr B ys = r ++ wr B xs := h
        rw [List.length_cons] at hn
        by_cases hl : s.length ≤ r.length
        · obtain ⟨o, e1, e2⟩ := app_cmp h hl
          have hb : bg s r = true := bg_iff.mpr ⟨o, e1⟩
          have g2 := (h2 r p hr g (w, s) hm).1 hb
          have ed : r.drop s.length = o := by rw [e1, List.drop_left]
          have g2 : G o p := by rw [← ed]; exact g2
          exact ih xs ys o p (by omega) ix iy' e2 g2
        · obtain ⟨o, e1, e2⟩ := app_cmp h.symm (by omega)
          have hb : bg r s = true := bg_iff.mpr ⟨o, e1⟩
          have hnb : ¬ bg s r = true := fun z => by
            obtain ⟨c, hc⟩ := bg_iff.mp z
            rw [hc, List.length_append] at hl
            omega
          have g2 := (h2 r p hr g (w, s) hm).2 hnb hb
          have ed : s.drop r.length = o := by rw [e1, List.drop_left]
          have g2 : G o (p + o.length) := by rw [← ed]; exact g2
          have := ih ys xs o (p + o.length) (by omega) iy' ix e2 g2
          rw [e2, List.length_append, ← Nat.add_assoc]
          exact this
theorem alike (hB : Bo B) (mono : ∀ r p q, G r p → p ≤ q → G r q) (h1 : ∀ f ∈ firstW B, G f.r f.p)
    (h2 : ∀ r p, r ≠ [] → G r p → ∀ e ∈ B, (bg e.2 r = true → G (r.drop e.2.length) p) ∧ (¬ bg e.2 r = true → bg r e.2 = true → G (e.2.drop r.length) (p + (e.2.drop r.length).length))) :
    ∀ (X Y : List (List Nat)), Ins B X → Ins B Y → X ≠ Y → wr B X = wr B Y → G [] (wr B X).length := by
  have fm : ∀ {a b : List Nat} {sa sb o : Rs}, (a, sa) ∈ B → (b, sb) ∈ B → a ≠ b → sb = sa ++ o → G o sb.length := by
    intro a b sa sb o ha hb hne e
    have := h1 ⟨sb.length, sb.drop sa.length, [b], [a]⟩ (List.mem_flatMap.mpr ⟨(a, sa), ha, List.mem_filterMap.mpr ⟨(b, sb), hb, by
      unfold firstOf; rw [if_pos ⟨hne, bg_iff.mpr ⟨o, e⟩⟩]⟩⟩)
    have ed : sb.drop sa.length = o := by rw [e, List.drop_left]
    rw [← ed]; exact this
  intro X
  induction X with
  | nil =>
    intro Y _ iy hne h
    cases Y with
    | nil => exact absurd rfl hne
    | cons b Y =>
      obtain ⟨s, hs⟩ := look_in (iy b (List.mem_cons_self ..))
      rw [wr_cons, hs, wr_nil] at h
      have h5 := congrArg List.length h
      have h6 := hB.s1 _ (look_mem hs)
      dsimp only at h6
      rw [Option.getD_some, List.length_append, List.length_nil] at h5
      omega
  | cons a X ih =>
    intro Y ix iy hne h
    obtain ⟨sa, ea⟩ := look_in (ix a (List.mem_cons_self ..))
    have ma := look_mem ea
    have ix' : Ins B X := fun z hz => ix z (List.mem_cons_of_mem _ hz)
    cases Y with
    | nil =>
      rw [wr_cons, ea, wr_nil] at h
      have h5 := congrArg List.length h
      have h6 := hB.s1 _ ma
      dsimp only at h6
      rw [Option.getD_some, List.length_append, List.length_nil] at h5
      omega
    | cons b Y =>
      obtain ⟨sb, eb⟩ := look_in (iy b (List.mem_cons_self ..))
      have mb := look_mem eb
      have iy' : Ins B Y := fun z hz => iy z (List.mem_cons_of_mem _ hz)
      have wx : wr B (a :: X) = sa ++ wr B X := by rw [wr_cons, ea]; rfl
      have wy : wr B (b :: Y) = sb ++ wr B Y := by rw [wr_cons, eb]; rfl
      have hh := h
      rw [wx, wy] at h
      by_cases hab : a = b
      · subst hab
        rw [ea] at eb; cases eb
        have := ih Y ix' iy' (fun z => hne (by rw [z])) (List.append_cancel_left h)
        exact mono _ _ _ this (by rw [wx, List.length_append]; omega)
      · by_cases hl : sa.length ≤ sb.length
        · obtain ⟨o, e1, e2⟩ := app_cmp h hl
          have := walk hB mono h2 _ Y X o sb.length rfl iy' ix' e2 (fm ma mb hab e1)
          rw [hh, wy, List.length_append]; exact this
        · obtain ⟨o, e1, e2⟩ := app_cmp h.symm (by omega)
          have := walk hB mono h2 _ X Y o sa.length rfl ix' iy' e2 (fm mb ma (Ne.symm hab) e1)
          rw [wx, List.length_append]; exact this
end
noncomputable def wyD (w : Wy) : D := .tuple [nd w.p, sD w.r, .tuple (w.lo.map tD), .tuple (w.sh.map tD)]
theorem lt_ints : ∀ a b : List Int, ∃ r, LD.ltds (a.map PyData.int) (b.map PyData.int) = some r
  | [], [] => ⟨_, by rw [List.map_nil, LD.ltds]⟩
  | [], _ :: _ => ⟨_, by rw [List.map_nil, List.map_cons, LD.ltds]⟩
  | _ :: _, [] => ⟨_, by rw [List.map_nil, List.map_cons, LD.ltds]⟩
  | x :: a, y :: b => by
    obtain ⟨r, h⟩ := lt_ints a b
    rw [List.map_cons, List.map_cons, LD.ltds]
    split
    · exact ⟨r, h⟩
    · exact ⟨_, by rw [LD.ltd]⟩
theorem lt_ks : ∀ a b : Rs, ∃ r, LD.ltds (a.map kD) (b.map kD) = some r
  | [], [] => ⟨_, by rw [List.map_nil, LD.ltds]⟩
  | [], _ :: _ => ⟨_, by rw [List.map_nil, List.map_cons, LD.ltds]⟩
  | _ :: _, [] => ⟨_, by rw [List.map_nil, List.map_cons, LD.ltds]⟩
  | x :: a, y :: b => by
    obtain ⟨r, h⟩ := lt_ks a b
    rw [List.map_cons, List.map_cons, LD.ltds]
    split
    · exact ⟨r, h⟩
    · obtain ⟨q, hq⟩ := lt_ints x y
      exact ⟨q, by unfold kD; rw [LD.ltd]; exact hq⟩
theorem lt_txs : ∀ a b : List (List Nat), ∃ r, LD.ltds (a.map tD) (b.map tD) = some r
  | [], [] => ⟨_, by rw [List.map_nil, LD.ltds]⟩
  | [], _ :: _ => ⟨_, by rw [List.map_nil, List.map_cons, LD.ltds]⟩
  | _ :: _, [] => ⟨_, by rw [List.map_nil, List.map_cons, LD.ltds]⟩
  | x :: a, y :: b => by
    obtain ⟨r, h⟩ := lt_txs a b
    rw [List.map_cons, List.map_cons, LD.ltds]
    split
    · exact ⟨r, h⟩
    · exact ⟨_, by unfold tD; rw [LD.ltd]⟩
theorem lt_wy (a b : Wy) : ∃ r, LD.ltd (wyD a) (wyD b) = some r ∧ (r = true → a.p ≤ b.p) ∧ (r = false → b.p ≤ a.p) := by
  unfold wyD
  rw [LD.ltd, LD.ltds]
  by_cases e : a.p = b.p
  · rw [e]
    have : PyData.eqv (nd b.p) (nd b.p) = true := by unfold nd; rw [PyData.eqv]; simp
    rw [if_pos this]
    have rest : ∃ r, LD.ltds [sD a.r, .tuple (a.lo.map tD), .tuple (a.sh.map tD)] [sD b.r, .tuple (b.lo.map tD), .tuple (b.sh.map tD)] = some r := by
      rw [LD.ltds]
      split
      · rw [LD.ltds]
        split
        · rw [LD.ltds]
          split
          · exact ⟨_, by rw [LD.ltds]⟩
          · rw [LD.ltd]; exact lt_txs _ _
        · rw [LD.ltd]; exact lt_txs _ _
      · unfold sD; rw [LD.ltd]; exact lt_ks _ _
    obtain ⟨r, h⟩ := rest
    exact ⟨r, h, fun _ => Nat.le_refl _, fun _ => Nat.le_refl _⟩
  · have : ¬ PyData.eqv (nd a.p) (nd b.p) = true := by unfold nd; rw [PyData.eqv]; simp; omega
    rw [if_neg this]
    refine ⟨decide ((a.p : Int) < b.p), by unfold nd; rw [LD.ltd], fun h => ?_, fun h => ?_⟩
    · have := of_decide_eq_true h; omega
    · have := of_decide_eq_false h; omega
noncomputable def minW (a b : Wy) : Wy := if LD.ltd (wyD b) (wyD a) = some true then b else a
theorem minW_or (a b : Wy) : minW a b = a ∨ minW a b = b := by unfold minW; split <;> simp
theorem minW_le (a b : Wy) : (minW a b).p ≤ a.p ∧ (minW a b).p ≤ b.p := by
  obtain ⟨r, h, h1, h2⟩ := lt_wy b a
  unfold minW
  rw [h]
  cases r with
  | true => rw [if_pos rfl]; exact ⟨h1 rfl, Nat.le_refl _⟩
  | false => rw [if_neg (by simp)]; exact ⟨Nat.le_refl _, h2 rfl⟩
noncomputable abbrev Mp := List (Rs × Wy)
noncomputable def getM (M : Mp) (r : Rs) : Option Wy := (M.find? fun q => decide (q.1 = r)).map (·.2)
noncomputable def putM (M : Mp) (r : Rs) (w : Wy) : Mp := if (M.find? fun q => decide (q.1 = r)).isSome = true then M.map (fun q => if q.1 = r then (q.1, w) else q) else M ++ [(r, w)]
noncomputable def dropM (M : Mp) (r : Rs) : Mp := M.filter fun q => !decide (q.1 = r)
noncomputable def Gt (M : Mp) (r : Rs) (p : Nat) : Prop := ∃ q ∈ M, q.1 = r ∧ q.2.p ≤ p
noncomputable def offM (O : Mp) (w : Wy) : Mp := putM O w.r (minW w ((getM O w.r).getD w))
theorem getM_mem {M : Mp} {r : Rs} {w : Wy} (h : getM M r = some w) : (r, w) ∈ M := by
  unfold getM at h
  obtain ⟨q, h1, h2⟩ := Option.map_eq_some_iff.mp h
  have h3 := List.find?_some h1
  have h4 := List.mem_of_find?_eq_some h1
  have h5 : q.1 = r := of_decide_eq_true h3
  obtain ⟨q1, q2⟩ := q
  dsimp only at h2 h5
  subst h2 h5
  exact h4
theorem getM_none {M : Mp} {r : Rs} (h : (M.find? fun q => decide (q.1 = r)).isSome ≠ true) : ∀ q ∈ M, q.1 ≠ r := fun q hq e => h (by
  rw [List.find?_isSome]; exact ⟨q, hq, decide_eq_true e⟩)
theorem put_mem {M : Mp} {r : Rs} {w : Wy} {q : Rs × Wy} (h : q ∈ putM M r w) : q = (r, w) ∨ (q ∈ M ∧ q.1 ≠ r) := by
  unfold putM at h
  split at h
  · obtain ⟨z, hz, e⟩ := List.mem_map.mp h
    by_cases k : z.1 = r
    · rw [if_pos k] at e; subst e; exact .inl (by rw [k])
    · rw [if_neg k] at e; subst e; exact .inr ⟨hz, k⟩
  · rename_i hn
    rcases List.mem_append.mp h with h | h
    · exact .inr ⟨h, getM_none hn q h⟩
    · exact .inl (List.mem_singleton.mp h)
theorem mem_put {M : Mp} {r : Rs} {w : Wy} : (r, w) ∈ putM M r w ∧ ∀ q ∈ M, q.1 ≠ r → q ∈ putM M r w := by
  unfold putM
  split
  · rename_i h
    rw [List.find?_isSome] at h
    obtain ⟨z, hz, e⟩ := h
    have e := of_decide_eq_true e
    exact ⟨List.mem_map.mpr ⟨z, hz, by rw [if_pos e, e]⟩, fun q hq k => List.mem_map.mpr ⟨q, hq, by rw [if_neg k]⟩⟩
  · exact ⟨List.mem_append_right _ (List.mem_singleton.mpr rfl), fun q hq _ => List.mem_append_left _ hq⟩
theorem put_keys (M : Mp) (r : Rs) (w : Wy) : (putM M r w).map (·.1) = if r ∈ M.map (·.1) then M.map (·.1) else M.map (·.1) ++ [r] := by
  unfold putM
  have hk : (M.find? fun q => decide (q.1 = r)).isSome = true ↔ r ∈ M.map (·.1) := by
    rw [List.find?_isSome, List.mem_map]
    exact ⟨fun ⟨q, h1, h2⟩ => ⟨q, h1, of_decide_eq_true h2⟩, fun ⟨q, h1, h2⟩ => ⟨q, h1, decide_eq_true h2⟩⟩
  by_cases h : r ∈ M.map (·.1)
  · rw [if_pos (hk.mpr h), if_pos h, List.map_map]
    apply List.map_congr_left
    intro q _
    show (if q.1 = r then (q.1, w) else q).1 = q.1
    split <;> rfl
  · rw [if_neg (fun z => h (hk.mp z)), if_neg h, List.map_append]; rfl
theorem put_nd {M : Mp} {r : Rs} {w : Wy} (h : (M.map (·.1)).Nodup) : ((putM M r w).map (·.1)).Nodup := by
  rw [put_keys]
  split
  · exact h
  · rename_i hn
    exact List.nodup_append.mpr ⟨h, List.nodup_cons.mpr ⟨List.not_mem_nil, List.nodup_nil⟩, fun a ha b hb e => hn (by rw [← List.mem_singleton.mp hb, ← e]; exact ha)⟩
theorem put_new {M : Mp} {r : Rs} {w : Wy} (h : r ∉ M.map (·.1)) : putM M r w = M ++ [(r, w)] := by
  unfold putM
  rw [if_neg]
  rw [List.find?_isSome]
  rintro ⟨q, h1, h2⟩
  exact h (List.mem_map.mpr ⟨q, h1, of_decide_eq_true h2⟩)
theorem key_eq {M : Mp} (h : (M.map (·.1)).Nodup) {a b : Rs × Wy} (ha : a ∈ M) (hb : b ∈ M) (e : a.1 = b.1) : a = b := by
  induction M with
  | nil => cases ha
  | cons c r ih =>
    rw [List.map_cons, List.nodup_cons] at h
    rcases List.mem_cons.mp ha with ka | ka <;> rcases List.mem_cons.mp hb with kb | kb
    · rw [ka, kb]
    · exact absurd (List.mem_map.mpr ⟨b, kb, by rw [← e, ka]⟩) h.1
    · exact absurd (List.mem_map.mpr ⟨a, ka, by rw [e, kb]⟩) h.1
    · exact ih h.2 ka kb
structure Ok1 (B : List Wd) (q : Rs × Wy) : Prop where
  k : q.2.r = q.1
  p : q.2.p = (wr B q.2.lo).length
  i : Ins B q.2.lo
  j : Ins B q.2.sh
  s : ∃ e ∈ B, ∃ c, e.2 = c ++ q.1
  e : wr B q.2.lo = wr B q.2.sh ++ q.1
  n : q.2.lo ≠ [] ∧ q.2.sh ≠ []
structure Iv (B : List Wd) (W O : Mp) : Prop where
  wk : ∀ q ∈ W, Ok1 B q
  ok : ∀ q ∈ O, Ok1 B q
  wn : (W.map (·.1)).Nodup
  on : (O.map (·.1)).Nodup
  dj : ∀ a ∈ W, ∀ b ∈ O, a.1 ≠ b.1
  le : ∀ a ∈ W, ∀ b ∈ O, a.2.p ≤ b.2.p
theorem off_gt {O : Mp} {w : Wy} (hn : (O.map (·.1)).Nodup) : Gt (offM O w) w.r w.p ∧ ∀ r p, Gt O r p → Gt (offM O w) r p := by
  unfold offM
  refine ⟨⟨_, mem_put.1, rfl, (minW_le _ _).1⟩, ?_⟩
  rintro r p ⟨q, hq, rfl, hp⟩
  by_cases e : q.1 = w.r
  · refine ⟨_, mem_put.1, e.symm, ?_⟩
    cases g : getM O w.r with
    | none =>
      exfalso
      unfold getM at g
      rw [Option.map_eq_none_iff, List.find?_eq_none] at g
      exact g q hq (decide_eq_true e)
    | some z =>
      have := key_eq hn hq (getM_mem g) e
      subst this
      exact Nat.le_trans (minW_le _ _).2 hp
  · exact ⟨q, mem_put.2 q hq e, rfl, hp⟩
theorem off_mem {O : Mp} {w : Wy} {q : Rs × Wy} (h : q ∈ offM O w) : q = (w.r, w) ∨ q ∈ O := by
  unfold offM at h
  rcases put_mem h with h | h
  · cases g : getM O w.r with
    | none =>
      rw [g] at h
      have : minW w (Option.getD (none : Option Wy) w) = w := by
        rcases minW_or w w with z | z <;> exact z
      rw [this] at h; exact .inl h
    | some z =>
      rw [g] at h
      have : minW w ((some z : Option Wy).getD w) = w ∨ minW w ((some z : Option Wy).getD w) = z := minW_or w z
      rcases this with e | e
      · rw [e] at h; exact .inl h
      · rw [e] at h; subst h; exact .inr (getM_mem g)
  · exact .inr h.1
noncomputable def offs (O : Mp) (ws : List Wy) : Mp := ws.foldl offM O
theorem offs_ok {B : List Wd} {W : Mp} : ∀ {ws : List Wy} {O : Mp}, Iv B W O → (∀ w ∈ ws, Ok1 B (w.r, w) ∧ (∀ a ∈ W, a.1 ≠ w.r) ∧ ∀ a ∈ W, a.2.p ≤ w.p) → Iv B W (offs O ws) ∧ (∀ w ∈ ws, Gt (offs O ws) w.r w.p) ∧ ∀ r p, Gt O r p → Gt (offs O ws) r p
  | [], O, h, _ => ⟨h, fun _ z => (by cases z), fun _ _ z => z⟩
  | w :: ws, O, h, g => by
    obtain ⟨g1, g2, g3⟩ := g w (List.mem_cons_self ..)
    have iv : Iv B W (offM O w) := by
      refine ⟨h.wk, fun q hq => ?_, h.wn, put_nd h.on, fun a ha b hb => ?_, fun a ha b hb => ?_⟩
      · rcases off_mem hq with e | e
        · subst e; exact g1
        · exact h.ok q e
      · rcases off_mem hb with e | e
        · subst e; exact g2 a ha
        · exact h.dj a ha b e
      · rcases off_mem hb with e | e
        · subst e; exact g3 a ha
        · exact h.le a ha b e
    obtain ⟨k1, k2⟩ := off_gt (O := O) (w := w) h.on
    obtain ⟨i1, i2, i3⟩ := offs_ok (ws := ws) iv fun z hz => g z (List.mem_cons_of_mem _ hz)
    refine ⟨i1, fun z hz => ?_, fun r p z => i3 r p (k2 r p z)⟩
    rcases List.mem_cons.mp hz with e | e
    · subst e; exact i3 _ _ k1
    · exact i2 z e
theorem first_ok1 {B : List Wd} (hB : Bo B) {w : Wy} (h : w ∈ firstW B) : Ok1 B (w.r, w) := by
  obtain ⟨e, he, h⟩ := List.mem_flatMap.mp h
  obtain ⟨f, hf, h⟩ := List.mem_filterMap.mp h
  unfold firstOf at h
  split at h
  · rename_i hb
    cases h
    obtain ⟨c, hc⟩ := bg_iff.mp hb.2
    have lf := look_of hB.nd hf
    have le := look_of hB.nd he
    have wf : wr B [f.1] = f.2 := by rw [wr_cons, lf, wr_nil, List.append_nil]; rfl
    have we : wr B [e.1] = e.2 := by rw [wr_cons, le, wr_nil, List.append_nil]; rfl
    refine ⟨rfl, by show f.2.length = _; rw [wf], fun x hx => ?_, fun x hx => ?_, ⟨f, hf, e.2, ?_⟩, ?_, ⟨by simp, by simp⟩⟩
    · rw [List.mem_singleton.mp hx]; exact List.mem_map.mpr ⟨f, hf, rfl⟩
    · rw [List.mem_singleton.mp hx]; exact List.mem_map.mpr ⟨e, he, rfl⟩
    · show f.2 = e.2 ++ f.2.drop e.2.length
      rw [hc, List.drop_left]
    · show wr B [f.1] = wr B [e.1] ++ f.2.drop e.2.length
      rw [wf, we, hc, List.drop_left]
  · cases h
theorem next_ok1 {B : List Wd} (hB : Bo B) {a w : Wy} (ha : Ok1 B (a.r, a)) (h : w ∈ nextW B a) : Ok1 B (w.r, w) ∧ a.p ≤ w.p := by
  unfold nextW at h
  split at h
  · cases h
  · obtain ⟨e, he, h⟩ := List.mem_filterMap.mp h
    have le := look_of hB.nd he
    obtain ⟨a1, a2, a3, a4, ⟨g, hg, c, hc⟩, a6, a7⟩ := ha
    dsimp only at a2 a3 a4 hc a6 a7
    have wsn : wr B (a.sh ++ [e.1]) = wr B a.sh ++ e.2 := by rw [wr_snoc, le]; rfl
    have isn : Ins B (a.sh ++ [e.1]) := fun x hx => by
      rcases List.mem_append.mp hx with hx | hx
      · exact a4 x hx
      · rw [List.mem_singleton.mp hx]; exact List.mem_map.mpr ⟨e, he, rfl⟩
    unfold nx at h
    split at h
    · rename_i hb
      cases h
      obtain ⟨o, ho⟩ := bg_iff.mp hb
      refine ⟨⟨rfl, a2, a3, isn, ⟨g, hg, c ++ e.2, ?_⟩, ?_, ⟨a7.1, by simp⟩⟩, Nat.le_refl _⟩
      · show g.2 = c ++ e.2 ++ a.r.drop e.2.length
        rw [hc, ho, List.drop_left, List.append_assoc]
      · show wr B a.lo = wr B (a.sh ++ [e.1]) ++ a.r.drop e.2.length
        rw [a6, wsn, ho, List.drop_left, List.append_assoc]
    · split at h
      · rename_i hb
        cases h
        obtain ⟨o, ho⟩ := bg_iff.mp hb
        have ed : e.2.drop a.r.length = o := by rw [ho, List.drop_left]
        have wl : wr B (a.sh ++ [e.1]) = wr B a.lo ++ o := by rw [wsn, ho, a6, List.append_assoc]
        refine ⟨⟨rfl, ?_, isn, a3, ⟨e, he, a.r, ?_⟩, ?_, ⟨by simp, a7.1⟩⟩, Nat.le_add_right _ _⟩
        · show a.p + (e.2.drop a.r.length).length = _
          rw [ed]
          show a.p + o.length = (wr B (a.sh ++ [e.1])).length
          rw [wl, List.length_append, a2]
        · show e.2 = a.r ++ e.2.drop a.r.length
          rw [ed]; exact ho
        · show wr B (a.sh ++ [e.1]) = wr B a.lo ++ e.2.drop a.r.length
          rw [ed]; exact wl
      · cases h
structure Full (B : List Wd) (W O : Mp) : Prop where
  iv : Iv B W O
  fst : ∀ f ∈ firstW B, Gt (W ++ O) f.r f.p
  nxt : ∀ a ∈ W, ∀ n ∈ nextW B a.2, Gt (W ++ O) n.r n.p
theorem Gt.app {W O O' : Mp} (h : ∀ r p, Gt O r p → Gt O' r p) {r : Rs} {p : Nat} (g : Gt (W ++ O) r p) : Gt (W ++ O') r p := by
  obtain ⟨q, hq, e, l⟩ := g
  rcases List.mem_append.mp hq with hq | hq
  · exact ⟨q, List.mem_append_left _ hq, e, l⟩
  · obtain ⟨z, hz, e2, l2⟩ := h r p ⟨q, hq, e, l⟩
    exact ⟨z, List.mem_append_right _ hz, e2, l2⟩
theorem start_ok {B : List Wd} (hB : Bo B) : Full B [] (offs [] (firstW B)) := by
  have iv0 : Iv B [] [] := ⟨fun _ z => (by cases z), fun _ z => (by cases z), List.nodup_nil, List.nodup_nil, fun _ z => (by cases z), fun _ z => (by cases z)⟩
  obtain ⟨i1, i2, i3⟩ := offs_ok (ws := firstW B) iv0 fun w hw => ⟨first_ok1 hB hw, fun _ z => (by cases z), fun _ z => (by cases z)⟩
  exact ⟨i1, fun f hf => i2 f hf, fun _ z => (by cases z)⟩
noncomputable def newW (B : List Wd) (W : Mp) (b : Rs × Wy) : List Wy := (nextW B b.2).filter fun n => !decide (n.r ∈ (W ++ [b]).map (·.1))
theorem turn_ok {B : List Wd} (hB : Bo B) {W O : Mp} (h : Full B W O) {b : Rs × Wy} (hb : b ∈ O) (hm : ∀ q ∈ O, b.2.p ≤ q.2.p) : Full B (W ++ [b]) (offs (dropM O b.1) (newW B W b)) := by
  have kb := h.iv.ok b hb
  have iv1 : Iv B (W ++ [b]) (dropM O b.1) := by
    have dm : ∀ q ∈ dropM O b.1, q ∈ O ∧ q.1 ≠ b.1 := fun q hq => by
      obtain ⟨h1, h2⟩ := List.mem_filter.mp hq
      exact ⟨h1, fun e => by rw [decide_eq_true e] at h2; cases h2⟩
    refine ⟨fun q hq => ?_, fun q hq => h.iv.ok q (dm q hq).1, ?_, h.iv.on.sublist ((List.filter_sublist).map _), fun a ha c hc => ?_, fun a ha c hc => ?_⟩
    · rcases List.mem_append.mp hq with hq | hq
      · exact h.iv.wk q hq
      · rw [List.mem_singleton.mp hq]; exact kb
    · rw [List.map_append]
      exact List.nodup_append.mpr ⟨h.iv.wn, List.nodup_cons.mpr ⟨List.not_mem_nil, List.nodup_nil⟩, fun x hx y hy e => by
        obtain ⟨a, ha, rfl⟩ := List.mem_map.mp hx
        have hy : y = b.1 := List.mem_singleton.mp hy
        exact h.iv.dj a ha b hb (e.trans hy)⟩
    · rcases List.mem_append.mp ha with ha | ha
      · exact h.iv.dj a ha c (dm c hc).1
      · rw [List.mem_singleton.mp ha]; exact Ne.symm (dm c hc).2
    · rcases List.mem_append.mp ha with ha | ha
      · exact h.iv.le a ha c (dm c hc).1
      · rw [List.mem_singleton.mp ha]; exact hm c (dm c hc).1
  have kb2 : Ok1 B (b.2.r, b.2) := by rw [kb.k]; exact kb
  obtain ⟨i1, i2, i3⟩ := offs_ok (ws := newW B W b) iv1 fun w hw => by
    obtain ⟨h1, h2⟩ := List.mem_filter.mp hw
    obtain ⟨o1, o2⟩ := next_ok1 hB kb2 h1
    refine ⟨o1, fun a ha e => ?_, fun a ha => Nat.le_trans ?_ o2⟩
    · rw [decide_eq_true (List.mem_map.mpr ⟨a, ha, e⟩)] at h2; cases h2
    · rcases List.mem_append.mp ha with ha | ha
      · exact h.iv.le a ha b hb
      · rw [List.mem_singleton.mp ha]; exact Nat.le_refl _
  have mv : ∀ r p, Gt (W ++ O) r p → Gt (W ++ [b] ++ offs (dropM O b.1) (newW B W b)) r p := fun r p g => by
    refine Gt.app i3 ?_
    obtain ⟨q, hq, e, l⟩ := g
    rcases List.mem_append.mp hq with hq | hq
    · exact ⟨q, List.mem_append_left _ (List.mem_append_left _ hq), e, l⟩
    · by_cases z : q.1 = b.1
      · have := key_eq h.iv.on hq hb z
        subst this
        exact ⟨q, List.mem_append_left _ (List.mem_append_right _ (List.mem_singleton.mpr rfl)), e, l⟩
      · exact ⟨q, List.mem_append_right _ (List.mem_filter.mpr ⟨hq, by rw [decide_eq_false z]; rfl⟩), e, l⟩
  refine ⟨i1, fun f hf => mv _ _ (h.fst f hf), fun a ha n hn => ?_⟩
  rcases List.mem_append.mp ha with ha | ha
  · exact mv _ _ (h.nxt a ha n hn)
  · rw [List.mem_singleton.mp ha] at hn
    obtain ⟨_, o2⟩ := next_ok1 hB kb2 hn
    by_cases z : n.r ∈ (W ++ [b]).map (·.1)
    · obtain ⟨q, hq, e⟩ := List.mem_map.mp z
      refine ⟨q, List.mem_append_left _ hq, e, Nat.le_trans ?_ o2⟩
      rcases List.mem_append.mp hq with hq | hq
      · exact h.iv.le q hq b hb
      · rw [List.mem_singleton.mp hq]; exact Nat.le_refl _
    · obtain ⟨q, hq, e, l⟩ := i2 n (List.mem_filter.mpr ⟨hn, by rw [decide_eq_false z]; rfl⟩)
      exact ⟨q, List.mem_append_right _ hq, e, l⟩
theorem end_ok {B : List Wd} (hB : Bo B) {W : Mp} (h : Full B W []) {X Y : List (List Nat)} (hx : Ins B X) (hy : Ins B Y) (hne : X ≠ Y) (e : wr B X = wr B Y) : Gt W [] (wr B X).length := by
  have f1 := h.fst
  have f2 := h.nxt
  rw [List.append_nil] at f1 f2
  refine alike hB (G := Gt W) (fun r p q ⟨z, h1, h2, h3⟩ l => ⟨z, h1, h2, Nat.le_trans h3 l⟩) f1 (fun r p hr ⟨q, hq, e, l⟩ f hf => ?_) X Y hx hy hne e
  have hk := (h.iv.wk q hq).k
  have hr2 : q.2.r ≠ [] := by rw [hk, e]; exact hr
  have nm : ∀ {n : Wy}, nx q.2 f = some n → Gt W n.r n.p := fun {n} hn => f2 q hq n (by unfold nextW; rw [if_neg hr2]; exact List.mem_filterMap.mpr ⟨f, hf, hn⟩)
  have er : q.2.r = r := hk.trans e
  refine ⟨fun hb => ?_, fun hnb hb => ?_⟩
  · have := nm (n := ⟨q.2.p, q.2.r.drop f.2.length, q.2.lo, q.2.sh ++ [f.1]⟩) (by unfold nx; rw [if_pos (by rw [er]; exact hb)])
    obtain ⟨z, h1, h2, h3⟩ := this
    exact ⟨z, h1, by rw [h2]; show q.2.r.drop f.2.length = _; rw [er], Nat.le_trans h3 l⟩
  · have := nm (n := ⟨q.2.p + (f.2.drop q.2.r.length).length, f.2.drop q.2.r.length, q.2.sh ++ [f.1], q.2.lo⟩) (by unfold nx; rw [if_neg (by rw [er]; exact hnb), if_pos (by rw [er]; exact hb)])
    obtain ⟨z, h1, h2, h3⟩ := this
    refine ⟨z, h1, by rw [h2]; show f.2.drop q.2.r.length = _; rw [er], Nat.le_trans h3 ?_⟩
    show q.2.p + (f.2.drop q.2.r.length).length ≤ _
    rw [er]; omega
noncomputable def sufs (B : List Wd) : List Rs := B.flatMap fun e => [e.2, e.2.drop 1, e.2.drop 2, e.2.drop 3]
theorem suf_in {B : List Wd} (hB : Bo B) {q : Rs × Wy} (h : Ok1 B q) : q.1 ∈ sufs B := by
  obtain ⟨e, he, c, hc⟩ := h.s
  have h3 := hB.s3 e he
  have ed : q.1 = e.2.drop c.length := by rw [hc, List.drop_left]
  have hl : c.length ≤ 3 := by rw [hc, List.length_append] at h3; omega
  refine List.mem_flatMap.mpr ⟨e, he, ?_⟩
  rw [ed]
  match c.length, hl with
  | 0, _ => simp
  | 1, _ => simp
  | 2, _ => simp
  | 3, _ => simp
  | n + 4, h => omega
theorem nodup_le {α : Type} [DecidableEq α] : ∀ {a b : List α}, a.Nodup → (∀ x ∈ a, x ∈ b) → a.length ≤ b.length
  | [], _, _, _ => Nat.zero_le _
  | x :: a, b, hn, hs => by
    rw [List.nodup_cons] at hn
    have := nodup_le (a := a) (b := b.erase x) hn.2 fun y hy => (List.mem_erase_of_ne (fun e : y = x => hn.1 (by rw [← e]; exact hy))).mpr (hs y (List.mem_cons_of_mem _ hy))
    have hx := hs x (List.mem_cons_self ..)
    rw [List.length_erase_of_mem hx] at this
    have : 0 < b.length := List.length_pos_of_mem hx
    rw [List.length_cons]; omega
theorem sufs_len : ∀ B : List Wd, (sufs B).length = 4 * B.length
  | [] => rfl
  | e :: r => by
    have := sufs_len r
    unfold sufs at *
    rw [List.flatMap_cons, List.length_append, this, List.length_cons]
    simp; omega
theorem len16 {B : List Wd} (hB : Bo B) {W O : Mp} (h : Iv B W O) : W.length + O.length ≤ 16 := by
  have nd : ((W ++ O).map (·.1)).Nodup := by
    rw [List.map_append]
    refine List.nodup_append.mpr ⟨h.wn, h.on, fun x hx y hy e => ?_⟩
    obtain ⟨a, ha, rfl⟩ := List.mem_map.mp hx
    obtain ⟨b, hb, rfl⟩ := List.mem_map.mp hy
    exact h.dj a ha b hb e
  have := nodup_le (b := sufs B) nd fun x hx => by
    obtain ⟨q, hq, rfl⟩ := List.mem_map.mp hx
    rcases List.mem_append.mp hq with hq | hq
    · exact suf_in hB (h.wk q hq)
    · exact suf_in hB (h.ok q hq)
  rw [sufs_len, List.length_map, List.length_append] at this
  have := hB.l4
  omega
theorem begins_ok (a b : Rs) : F_begins [sD a, sD b] = .ok (.fz (.bool (bg a b))) := by
  unfold F_begins g_begins
  have ln := len_ss a
  have ct : slE (sD b) none (some (a.length : Int)) = some (.fz (sD (b.take a.length))) := by
    unfold sD
    rw [cut_to, List.map_take]
  have eq := eqD_ss (b.take a.length) a
  exact go_val (ρ := [some (.fz (sD a)), some (.fz (sD b))]) rfl (go_ret (ev_opb (b := bg a b) (ev_sl (rv := .fz (sD (b.take a.length))) (ev_var rfl) ev_onone (ev_osome (ev_cb (rv := .fz (nd a.length)) (ev_cons (ev_var rfl) ev_nil) rfl ln) rfl) rfl ct) (ev_var rfl) rfl rfl eq) rfl rfl)
theorem cutD_ss (b : Rs) (n : Nat) : slE (sD b) (some (n : Int)) none = some (.fz (sD (b.drop n))) := by
  unfold sD
  rw [cut_from, List.map_drop]
theorem ne_tx {a b : List Nat} (ha : ∀ c ∈ a, c < 1114112) (hb : ∀ c ∈ b, c < 1114112) : neD (tD a) (tD b) = some (.fz (.bool (!decide (a = b)))) := by
  unfold neD tD
  rw [if_pos, eqv_str]
  unfold okD
  rw [PyData.canLay0, PyData.canLay0, tx_ok ha, tx_ok hb]
  rfl
theorem bk_get {B : List Wd} {i : Nat} {d : D} (h : (B.map wD)[i]? = some d) : ∃ e, B[i]? = some e ∧ d = wD e := by
  rw [List.getElem?_map] at h
  obtain ⟨e, h1, h2⟩ := Option.map_eq_some_iff.mp h
  exact ⟨e, h1, h2.symm⟩
theorem take_get {α : Type} {l : List α} {i : Nat} {e : α} (h : l[i]? = some e) : l.take (i + 1) = l.take i ++ [e] := by
  rw [List.take_add_one, h]; rfl
theorem fm_len {α β : Type} (f : α → Option β) (l : List α) : (l.filterMap f).length ≤ l.length := List.length_filterMap_le f l
theorem fm_one {α β : Type} (f : α → Option β) (x : α) : [x].filterMap f = match f x with | some w => [w] | none => [] := by
  rw [List.filterMap_cons, List.filterMap_nil]
  cases f x <;> rfl
theorem flat_len {α β : Type} (f : α → List β) (n : Nat) (h : ∀ x, (f x).length ≤ n) : ∀ l : List α, (l.flatMap f).length ≤ n * l.length
  | [] => by simp
  | x :: r => by
    have := flat_len f n h r
    have := h x
    rw [List.flatMap_cons, List.length_append, List.length_cons, Nat.mul_add, Nat.mul_one]
    omega
theorem firstW_len {B : List Wd} (hB : Bo B) : (firstW B).length ≤ 16 := by
  have := flat_len (fun e => B.filterMap (firstOf e)) B.length (fun e => fm_len _ _) B
  have h4 := hB.l4
  have : B.length * B.length ≤ 4 * 4 := Nat.mul_le_mul h4 h4
  unfold firstW
  omega
theorem first_ok {B : List Wd} (hB : Bo B) : F_first_ways [bkD B] = .ok (.ow ((firstW B).map wyD)) := by
  refine go_val (ρ := [some (.fz (bkD B)), none, none, none, none, none]) rfl ?_
  unfold g_first_ways
  refine gs_asg (pv := .ow []) (ρ3 := [some (.fz (bkD B)), some (.ow []), none, none, none, none]) (by walk_at "evp") rfl rfl ?_
  refine gs_for (fun i ρ => ∃ t2 t3 t4 t5, ρ = [some (.fz (bkD B)), some (.ow (((B.take i).flatMap fun e => B.filterMap (firstOf e)).map wyD)), t2, t3, t4, t5]) (ds := B.map wD) (ρ1 := [some (.fz (bkD B)), some (.ow []), none, none, none, none]) (ev_iseq (d := bkD B) (ev_var rfl) rfl rfl) ⟨none, none, none, none, rfl⟩ ?_ ?_
  · rintro i d ρ hd ⟨t2, t3, t4, t5, rfl⟩
    obtain ⟨e, he, rfl⟩ := bk_get hd
    have me := List.mem_of_getElem? he
    refine ⟨_, rfl, ?_⟩
    have lP : ((B.take i).flatMap fun e => B.filterMap (firstOf e)).length ≤ 16 := by
      have h1 := flat_len (fun e => B.filterMap (firstOf e)) B.length (fun e => fm_len _ _) (B.take i)
      have h4 := hB.l4
      have h5 : (B.take i).length ≤ 4 := by rw [List.length_take]; omega
      have : B.length * (B.take i).length ≤ 4 * 4 := Nat.mul_le_mul h4 h5
      omega
    have eT : (B.take (i + 1)).flatMap (fun e => B.filterMap (firstOf e)) = ((B.take i).flatMap fun e => B.filterMap (firstOf e)) ++ B.filterMap (firstOf e) := by
      rw [take_get he, List.flatMap_append]; simp
    generalize ((B.take i).flatMap fun e => B.filterMap (firstOf e)) = P at lP eT
    refine go_for (fun j ρ => ∃ t4 t5, ρ = [some (.fz (bkD B)), some (.ow ((P ++ (B.take j).filterMap (firstOf e)).map wyD)), some (.fz (tD e.1)), some (.fz (sD e.2)), t4, t5]) (ds := B.map wD) (ρ1 := [some (.fz (bkD B)), some (.ow (P.map wyD)), some (.fz (tD e.1)), some (.fz (sD e.2)), t4, t5]) (ev_iseq (d := bkD B) (ev_var rfl) rfl rfl) ⟨t4, t5, by rw [List.take_zero, List.filterMap_nil, List.append_nil]⟩ ?_ ?_
    · rintro j d ρ hd ⟨t4, t5, rfl⟩
      obtain ⟨f, hf, rfl⟩ := bk_get hd
      have mf := List.mem_of_getElem? hf
      refine ⟨_, rfl, ?_⟩
      have eJ : P ++ (B.take (j + 1)).filterMap (firstOf e) = P ++ (B.take j).filterMap (firstOf e) ++ (match firstOf e f with | some w => [w] | none => []) := by
        rw [take_get hf, List.filterMap_append, List.append_assoc]
        rw [fm_one]
        cases firstOf e f <;> rfl
      have lJ : (P ++ (B.take j).filterMap (firstOf e)).length ≤ 20 := by
        have h1 := fm_len (firstOf e) (B.take j)
        have h4 := hB.l4
        have h5 : (B.take j).length ≤ 4 := by rw [List.length_take]; omega
        rw [List.length_append]; omega
      generalize P ++ (B.take j).filterMap (firstOf e) = M at eJ lJ
      have ne := ne_tx (hB.ch e me) (hB.ch f mf)
      have be := begins_ok e.2 f.2
      refine go_if (b := !decide (e.1 = f.1) && bg e.2 f.2) (ev_qand (ev_bool (ev_opb (ev_var rfl) (ev_var rfl) rfl rfl ne) rfl) fun _ => ev_bool (ev_calb (ev_cons (ev_var rfl) (ev_cons (ev_var rfl) ev_nil)) rfl rfl be) rfl) (fun hb => ?_) fun hb => ?_
      · rw [Bool.and_eq_true, Bool.not_eq_true', decide_eq_false_iff_not] at hb
        have eF : firstOf e f = some ⟨f.2.length, f.2.drop e.2.length, [f.1], [e.1]⟩ := by unfold firstOf; rw [if_pos hb]
        rw [eF] at eJ
        have l1 := len_ss f.2
        have l2 := len_ss e.2
        have ct := cutD_ss f.2 e.2.length
        refine go_drop (ev_app (d := wyD ⟨f.2.length, f.2.drop e.2.length, [f.1], [e.1]⟩) (x := [some (.fz (bkD B)), some (.ow (M.map wyD ++ [wyD ⟨f.2.length, f.2.drop e.2.length, [f.1], [e.1]⟩])), some (.fz (tD e.1)), some (.fz (sD e.2)), some (.fz (tD f.1)), some (.fz (sD f.2))]) rfl (ev_tup (ds := [nd f.2.length, sD (f.2.drop e.2.length), .tuple [tD f.1], .tuple [tD e.1]]) (ev_cons (ev_cb (rv := .fz (nd f.2.length)) (ev_cons (ev_var rfl) ev_nil) rfl l1) (ev_cons (ev_sl (rv := .fz (sD (f.2.drop e.2.length))) (ev_var rfl) (ev_osome (ev_cb (rv := .fz (nd e.2.length)) (ev_cons (ev_var rfl) ev_nil) rfl l2) rfl) ev_onone rfl ct) (ev_cons (ev_tup (ds := [tD f.1]) (ev_cons (ev_var rfl) ev_nil) rfl (Nat.le_of_ble_eq_true rfl)) (ev_cons (ev_tup (ds := [tD e.1]) (ev_cons (ev_var rfl) ev_nil) rfl (Nat.le_of_ble_eq_true rfl)) ev_nil)))) rfl (Nat.le_of_ble_eq_true rfl)) rfl rfl (by rw [List.length_map]; omega) rfl) ⟨_, _, by rw [eJ, List.map_append]; rfl⟩
      · have eF : firstOf e f = none := by
          unfold firstOf
          rw [if_neg]
          rintro ⟨h1, h2⟩
          rw [decide_eq_false h1, h2] at hb
          cases hb
        rw [eF] at eJ
        exact go_next ⟨_, _, by rw [eJ, List.append_nil]; rfl⟩
    · rintro ρ ⟨t4, t5, rfl⟩
      refine ⟨some (.fz (tD e.1)), some (.fz (sD e.2)), t4, t5, ?_⟩
      rw [eT, List.length_map, List.take_length]
  · rintro ρ ⟨t2, t3, t4, t5, rfl⟩
    rw [List.length_map, List.take_length]
    exact go_ret (ev_own rfl) rfl rfl
theorem ix4 (w : Wy) : ixD (wyD w) (.int 0) = some (.fz (nd w.p)) ∧ ixD (wyD w) (.int 1) = some (.fz (sD w.r)) ∧ ixD (wyD w) (.int 2) = some (.fz (.tuple (w.lo.map tD))) ∧ ixD (wyD w) (.int 3) = some (.fz (.tuple (w.sh.map tD))) := ⟨rfl, rfl, rfl, rfl⟩
theorem add_nn (a b : Nat) : addD (nd a) (nd b) = some (.fz (nd (a + b))) := rfl
theorem next_ok {B : List Wd} (hB : Bo B) {w : Wy} (h1 : w.sh ≠ []) (h2 : w.sh.length ≤ 1000) : F_next_ways [bkD B, wyD w] = .ok (.ow ((nextW B w).map wyD)) := by
  obtain ⟨x0, x1, x2, x3⟩ := ix4 w
  refine go_val (ρ := [some (.fz (bkD B)), some (.fz (wyD w)), none, none, none, none, none, none]) rfl ?_
  unfold g_next_ways
  refine gs_asg (pv := .fz (nd w.p)) (ρ3 := [some (.fz (bkD B)), some (.fz (wyD w)), some (.fz (nd w.p)), none, none, none, none, none]) (ev_op (rv := .fz (nd w.p)) (ev_var rfl) ev_c rfl rfl x0) rfl rfl ?_
  refine gs_asg (pv := .fz (sD w.r)) (ρ3 := [some (.fz (bkD B)), some (.fz (wyD w)), some (.fz (nd w.p)), some (.fz (sD w.r)), none, none, none, none]) (ev_op (rv := .fz (sD w.r)) (ev_var rfl) ev_c rfl rfl x1) rfl rfl ?_
  have en := eqD_ss w.r []
  refine gs_if (b := decide (w.r = [])) (ev_bool (ev_opb (dy := sD []) (ev_var rfl) (ev_tup (ds := []) ev_nil rfl (Nat.zero_le _)) rfl rfl en) rfl) (fun hb => ?_) fun hb => gs_next ?_
  · have e : nextW B w = [] := by unfold nextW; rw [if_pos (of_decide_eq_true hb)]
    rw [e]
    exact gs_ret (pv := .ow []) (by walk_at "evp") rfl rfl
  have eN : nextW B w = B.filterMap (nx w) := by unfold nextW; rw [if_neg (of_decide_eq_false hb)]
  rw [eN]
  refine gs_asg (pv := .ow []) (ρ3 := [some (.fz (bkD B)), some (.fz (wyD w)), some (.fz (nd w.p)), some (.fz (sD w.r)), some (.ow []), none, none, none]) (by walk_at "evp") rfl rfl ?_
  refine gs_for (fun i ρ => ∃ t5 t6 t7, ρ = [some (.fz (bkD B)), some (.fz (wyD w)), some (.fz (nd w.p)), some (.fz (sD w.r)), some (.ow (((B.take i).filterMap (nx w)).map wyD)), t5, t6, t7]) (ds := B.map wD) (ρ1 := [some (.fz (bkD B)), some (.fz (wyD w)), some (.fz (nd w.p)), some (.fz (sD w.r)), some (.ow []), none, none, none]) (ev_iseq (d := bkD B) (ev_var rfl) rfl rfl) ⟨none, none, none, rfl⟩ ?_ ?_
  · rintro i d ρ hd ⟨t5, t6, t7, rfl⟩
    obtain ⟨e, he, rfl⟩ := bk_get hd
    refine ⟨_, rfl, ?_⟩
    have eJ : (B.take (i + 1)).filterMap (nx w) = (B.take i).filterMap (nx w) ++ (match nx w e with | some w => [w] | none => []) := by
      rw [take_get he, List.filterMap_append]
      rw [fm_one]
      cases nx w e <;> rfl
    have lJ : ((B.take i).filterMap (nx w)).length ≤ 4 := by
      have h1 := fm_len (nx w) (B.take i)
      have h4 := hB.l4
      rw [List.length_take] at h1; omega
    generalize (B.take i).filterMap (nx w) = M at eJ lJ
    have b1 := begins_ok e.2 w.r
    have b2 := begins_ok w.r e.2
    have l1 := len_ss e.2
    have l2 := len_ss w.r
    have c1 := cutD_ss w.r e.2.length
    have c2 := cutD_ss e.2 w.r.length
    have l3 := len_ss (e.2.drop w.r.length)
    have ad : addD (.tuple (w.sh.map tD)) (.tuple [tD e.1]) = some (.fz (.tuple ((w.sh ++ [e.1]).map tD))) := by
      show (if w.sh.map tD ≠ [] ∧ (w.sh.map tD).length + 1 ≤ 1000000 then _ else _) = _
      rw [if_pos ⟨by intro z; exact h1 (List.map_eq_nil_iff.mp z), by rw [List.length_map]; omega⟩, List.map_append]; rfl
    have ap := add_nn w.p (e.2.drop w.r.length).length
    refine go_if (b := bg e.2 w.r) (ev_bool (ev_calb (ev_cons (ev_var rfl) (ev_cons (ev_var rfl) ev_nil)) rfl rfl b1) rfl) (fun hb => ?_) fun hb => ?_
    · have eF : nx w e = some ⟨w.p, w.r.drop e.2.length, w.lo, w.sh ++ [e.1]⟩ := by unfold nx; rw [if_pos hb]
      rw [eF] at eJ
      refine go_drop (ev_app (d := wyD ⟨w.p, w.r.drop e.2.length, w.lo, w.sh ++ [e.1]⟩) (x := [some (.fz (bkD B)), some (.fz (wyD w)), some (.fz (nd w.p)), some (.fz (sD w.r)), some (.ow (M.map wyD ++ [wyD ⟨w.p, w.r.drop e.2.length, w.lo, w.sh ++ [e.1]⟩])), some (.fz (tD e.1)), some (.fz (sD e.2)), t7]) rfl (ev_tup (ds := [nd w.p, sD (w.r.drop e.2.length), .tuple (w.lo.map tD), .tuple ((w.sh ++ [e.1]).map tD)]) (ev_cons (ev_var rfl) (ev_cons (ev_sl (rv := .fz (sD (w.r.drop e.2.length))) (ev_var rfl) (ev_osome (ev_cb (rv := .fz (nd e.2.length)) (ev_cons (ev_var rfl) ev_nil) rfl l1) rfl) ev_onone rfl c1) (ev_cons (ev_op (rv := .fz (.tuple (w.lo.map tD))) (ev_var rfl) ev_c rfl rfl x2) (ev_cons (ev_op (rv := .fz (.tuple ((w.sh ++ [e.1]).map tD))) (dx := .tuple (w.sh.map tD)) (dy := .tuple [tD e.1]) (ev_op (rv := .fz (.tuple (w.sh.map tD))) (ev_var rfl) ev_c rfl rfl x3) (ev_tup (ds := [tD e.1]) (ev_cons (ev_var rfl) ev_nil) rfl (Nat.le_of_ble_eq_true rfl)) rfl rfl ad) ev_nil)))) rfl (Nat.le_of_ble_eq_true rfl)) rfl rfl (by rw [List.length_map]; omega) rfl) ⟨_, _, _, by rw [eJ, List.map_append]; rfl⟩
    · refine go_if (b := bg w.r e.2) (ev_bool (ev_calb (ev_cons (ev_var rfl) (ev_cons (ev_var rfl) ev_nil)) rfl rfl b2) rfl) (fun hb2 => ?_) fun hb2 => ?_
      · have eF : nx w e = some ⟨w.p + (e.2.drop w.r.length).length, e.2.drop w.r.length, w.sh ++ [e.1], w.lo⟩ := by unfold nx; rw [if_neg (by rw [hb]; simp), if_pos hb2]
        rw [eF] at eJ
        refine gs_asg (pv := .fz (sD (e.2.drop w.r.length))) (ρ3 := [some (.fz (bkD B)), some (.fz (wyD w)), some (.fz (nd w.p)), some (.fz (sD w.r)), some (.ow (M.map wyD)), some (.fz (tD e.1)), some (.fz (sD e.2)), some (.fz (sD (e.2.drop w.r.length)))]) (ev_sl (rv := .fz (sD (e.2.drop w.r.length))) (ev_var rfl) (ev_osome (ev_cb (rv := .fz (nd w.r.length)) (ev_cons (ev_var rfl) ev_nil) rfl l2) rfl) ev_onone rfl c2) rfl rfl ?_
        refine go_drop (ev_app (d := wyD ⟨w.p + (e.2.drop w.r.length).length, e.2.drop w.r.length, w.sh ++ [e.1], w.lo⟩) (x := [some (.fz (bkD B)), some (.fz (wyD w)), some (.fz (nd w.p)), some (.fz (sD w.r)), some (.ow (M.map wyD ++ [wyD ⟨w.p + (e.2.drop w.r.length).length, e.2.drop w.r.length, w.sh ++ [e.1], w.lo⟩])), some (.fz (tD e.1)), some (.fz (sD e.2)), some (.fz (sD (e.2.drop w.r.length)))]) rfl (ev_tup (ds := [nd (w.p + (e.2.drop w.r.length).length), sD (e.2.drop w.r.length), .tuple ((w.sh ++ [e.1]).map tD), .tuple (w.lo.map tD)]) (ev_cons (ev_op (rv := .fz (nd (w.p + (e.2.drop w.r.length).length))) (ev_var rfl) (ev_cb (rv := .fz (nd (e.2.drop w.r.length).length)) (ev_cons (ev_var rfl) ev_nil) rfl l3) rfl rfl ap) (ev_cons (ev_var rfl) (ev_cons (ev_op (rv := .fz (.tuple ((w.sh ++ [e.1]).map tD))) (dx := .tuple (w.sh.map tD)) (dy := .tuple [tD e.1]) (ev_op (rv := .fz (.tuple (w.sh.map tD))) (ev_var rfl) ev_c rfl rfl x3) (ev_tup (ds := [tD e.1]) (ev_cons (ev_var rfl) ev_nil) rfl (Nat.le_of_ble_eq_true rfl)) rfl rfl ad) (ev_cons (ev_op (rv := .fz (.tuple (w.lo.map tD))) (ev_var rfl) ev_c rfl rfl x2) ev_nil)))) rfl (Nat.le_of_ble_eq_true rfl)) rfl rfl (by rw [List.length_map]; omega) rfl) ⟨_, _, _, by rw [eJ, List.map_append]; rfl⟩
      · have eF : nx w e = none := by unfold nx; rw [if_neg (by rw [hb]; simp), if_neg (by rw [hb2]; simp)]
        rw [eF] at eJ
        exact go_next ⟨_, _, _, by rw [eJ, List.append_nil]; rfl⟩
  · rintro ρ ⟨t5, t6, t7, rfl⟩
    rw [List.length_map, List.take_length]
    exact go_ret (ev_own rfl) rfl rfl
noncomputable def orD : Option D → SV → SV
  | some d, _ => .fz d
  | none, z => z
section
variable {ρ ρ1 : SEnv} {ω ω1 ω2 ω3 : Sto} {x y z : SV} {i : Nat} {d : D} {kvs : List (D × D)}
theorem dd_eq (h : ω[i]? = some (.dd kvs)) : ddAt ω (.rf i) = some (i, kvs) := by unfold ddAt; dsimp only; rw [h]
theorem sv_ddin {neg : Bool} {fk fd : FES} {k : D} (hk : fk ρ ω = .ok x ω1) (hd : fd ρ ω1 = .ok (.rf i) ω2) (h1 : keyDV x = some k) (h2 : ω2[i]? = some (.dd kvs)) : ddinS neg fk fd ρ ω = .ok (.fz (.bool ((getDD kvs k).isSome != neg))) ω2 := by
  unfold ddinS
  rw [hk, RS.bind_ok, hd, RS.bind_ok, h1]
  show ((RS.ofO ω2 (ddAt ω2 (.rf i))).bind _) = _
  rw [dd_eq h2]; rfl
theorem sv_ddget {fd fk : FES} {k : D} (hd : fd ρ ω = .ok (.rf i) ω1) (hk : fk ρ ω1 = .ok x ω2) (h1 : keyDV x = some k) (h2 : ω2[i]? = some (.dd kvs)) (h3 : getDD kvs k = some d) : ddgetS fd fk ρ ω = .ok (.fz d) ω2 := by
  unfold ddgetS
  rw [hd, RS.bind_ok, hk, RS.bind_ok, h1]
  show ((RS.ofO ω2 (ddAt ω2 (.rf i))).bind _) = _
  rw [dd_eq h2]
  show ((RS.ofO ω2 (getDD kvs k)).bind _) = _
  rw [h3]; rfl
theorem sv_ddput {fd fk fv : FES} {k : D} (hv : fv ρ ω = .ok (.fz d) ω1) (hd : fd ρ ω1 = .ok (.rf i) ω2) (hk : fk ρ ω2 = .ok x ω3) (h1 : keyDV x = some k) (h2 : ω3[i]? = some (.dd kvs)) (hl : kvs.length < 1000000) : ddputS fd fk fv ρ ω = .ok (.nx ρ) (ω3.set i (.dd (putDD kvs k d))) := by
  unfold ddputS
  rw [hv, RS.bind_ok, hd, RS.bind_ok, hk, RS.bind_ok, h1]
  show ((RS.ofO ω3 (ddAt ω3 (.rf i))).bind _) = _
  rw [dd_eq h2]
  show (if kvs.length < 1000000 then _ else _) = _
  rw [if_pos hl]
theorem sv_ddget2 {fd fk fx : FES} {k : D} {kvs0 : List (D × D)} (hd : fd ρ ω = .ok (.rf i) ω1) (h0 : ω1[i]? = some (.dd kvs0)) (hk : fk ρ ω1 = .ok x ω2) (hx : fx ρ ω2 = .ok z ω3) (h1 : keyDV x = some k) (h2 : ω3[i]? = some (.dd kvs)) : ddget2S fd fk fx ρ ω = .ok (orD (getDD kvs k) z) ω3 := by
  unfold ddget2S
  rw [hd, RS.bind_ok, dd_eq h0]
  show ((fk ρ ω1).bind _) = _
  rw [hk, RS.bind_ok, hx, RS.bind_ok, h1]
  show ((RS.ofO ω3 (ddAt ω3 (.rf i))).bind _) = _
  rw [dd_eq h2]
  show RS.ok (match getDD kvs k with | some d => SV.fz d | none => z) ω3 = _
  cases getDD kvs k <;> rfl
theorem sv_ddpop {fd fk : FES} {k : D} {kvs0 : List (D × D)} (hd : fd ρ ω = .ok (.rf i) ω1) (h0 : ω1[i]? = some (.dd kvs0)) (hk : fk ρ ω1 = .ok x ω2) (h1 : keyDV x = some k) (h2 : ω2[i]? = some (.dd kvs)) (h3 : getDD kvs k = some d) : ddpopS fd fk ρ ω = .ok (.fz d) (ω2.set i (.dd (dropDD kvs k))) := by
  unfold ddpopS
  rw [hd, RS.bind_ok, dd_eq h0]
  show ((fk ρ ω1).bind _) = _
  rw [hk, RS.bind_ok, h1]
  show ((RS.ofO ω2 (ddAt ω2 (.rf i))).bind _) = _
  rw [dd_eq h2]
  show ((RS.ofO ω2 (getDD kvs k)).bind _) = _
  rw [h3]; rfl
theorem sv_ddne {fd : FES} (hd : fd ρ ω = .ok (.rf i) ω1) (h2 : ω1[i]? = some (.dd kvs)) : ddneS fd ρ ω = .ok (.fz (.bool (!kvs.isEmpty))) ω1 := by
  unfold ddneS
  rw [hd, RS.bind_ok, dd_eq h2]; rfl
theorem sv_ddmin {fd : FES} (hd : fd ρ ω = .ok (.rf i) ω1) (h2 : ω1[i]? = some (.dd kvs)) (ho : LD.okO (kvs.map (·.2)) = true) (hm : (kvs.map (·.2))[LD.minI (kvs.map (·.2))]? = some d) : ddminS fd ρ ω = .ok (.fz d) ω1 := by
  unfold ddminS
  rw [hd, RS.bind_ok, dd_eq h2]
  show (if LD.okO (kvs.map (·.2)) = true then ((RS.ofO ω1 ((kvs.map (·.2))[LD.minI (kvs.map (·.2))]?)).bind _) else _) = _
  rw [if_pos ho, hm]; rfl
theorem sv_calS {F : FNS} {n : Nat} {fa : FAS} {xs : List SV} (ha : fa ρ ω = .ok xs ω1) (hn : xs.length = n) (hF : F xs ω1 = .ok x ω2) : calS0 F n fa ρ ω = .ok x ω2 := by
  unfold calS0
  rw [ha, RS.bind_ok, if_pos hn, hF, noErS_ok]
end
noncomputable def ddC (M : Mp) : List (D × D) := M.map fun q => (sD q.1, wyD q.2)
theorem eqv_sD (a b : Rs) : PyData.eqv (sD a) (sD b) = decide (a = b) := by unfold sD; rw [PyData.eqv]; exact eqv_ss a b
theorem getDD_C (M : Mp) (r : Rs) : getDD (ddC M) (sD r) = (getM M r).map wyD := by
  unfold getDD getM ddC
  induction M with
  | nil => rfl
  | cons q M ih =>
    rw [List.map_cons, List.find?_cons, List.find?_cons, eqv_sD]
    by_cases e : q.1 = r
    · rw [decide_eq_true e]; rfl
    · rw [decide_eq_false e]; exact ih
theorem findDD_C (M : Mp) (r : Rs) : ((ddC M).find? fun kv => PyData.eqv kv.1 (sD r)).isSome = (M.find? fun q => decide (q.1 = r)).isSome := by
  unfold ddC
  induction M with
  | nil => rfl
  | cons q M ih =>
    rw [List.map_cons, List.find?_cons, List.find?_cons, eqv_sD]
    by_cases e : q.1 = r
    · rw [decide_eq_true e]; rfl
    · rw [decide_eq_false e]; exact ih
theorem putDD_C (M : Mp) (r : Rs) (w : Wy) : putDD (ddC M) (sD r) (wyD w) = ddC (putM M r w) := by
  unfold putDD putM
  rw [findDD_C]
  split
  · unfold ddC
    rw [List.map_map, List.map_map]
    apply List.map_congr_left
    intro q _
    show (if PyData.eqv (sD q.1) (sD r) = true then (sD q.1, wyD w) else (sD q.1, wyD q.2)) = _
    rw [eqv_sD]
    by_cases e : q.1 = r
    · rw [if_pos (decide_eq_true e)]
      show _ = (sD (if q.1 = r then (q.1, w) else q).1, wyD (if q.1 = r then (q.1, w) else q).2)
      rw [if_pos e]
    · rw [if_neg (by simpa using e)]
      show _ = (sD (if q.1 = r then (q.1, w) else q).1, wyD (if q.1 = r then (q.1, w) else q).2)
      rw [if_neg e]
  · unfold ddC; rw [List.map_append]; rfl
theorem dropDD_C (M : Mp) (r : Rs) : dropDD (ddC M) (sD r) = ddC (dropM M r) := by
  unfold dropDD dropM ddC
  rw [List.filter_map]
  congr 1
  apply List.filter_congr
  intro q _
  show (!PyData.eqv (sD q.1) (sD r)) = _
  rw [eqv_sD]
theorem kd_ints : ∀ l : List Int, LD.kds (l.map PyData.int) = true
  | [] => by rw [List.map_nil, LD.kds]
  | i :: r => by rw [List.map_cons, LD.kds, LD.kd, kd_ints r]; rfl
theorem kd_ks : ∀ l : Rs, LD.kds (l.map kD) = true
  | [] => by rw [List.map_nil, LD.kds]
  | i :: r => by rw [List.map_cons, LD.kds, kd_ks r]; unfold kD; rw [LD.kd, kd_ints]; rfl
theorem key_sD (r : Rs) : keyDV (.fz (sD r)) = some (sD r) := by
  show (if LD.keyD (sD r) = true then some (sD r) else none) = _
  rw [if_pos]
  unfold sD
  rw [LD.keyD, kd_ks, Bool.true_and]
  apply decide_eq_true
  rw [PyData.depth]
  have := dep_ks r
  omega
theorem lay_txs : ∀ {L : List (List Nat)}, (∀ l ∈ L, ∀ c ∈ l, c < 1114112) → PyData.canLayAll0 (L.map tD) = true
  | [], _ => by rw [List.map_nil, PyData.canLayAll0]
  | l :: r, h => by
    rw [List.map_cons, PyData.canLayAll0, lay_txs fun x hx => h x (List.mem_cons_of_mem _ hx)]
    unfold tD
    rw [PyData.canLay0, tx_ok (h l (List.mem_cons_self ..))]; rfl
theorem dep_txs : ∀ L : List (List Nat), PyData.depthAll (L.map tD) = 0
  | [] => by rw [List.map_nil, PyData.depthAll]
  | l :: r => by rw [List.map_cons, PyData.depthAll, dep_txs r]; unfold tD; rw [PyData.depth]; rfl
noncomputable def Chs (L : List (List Nat)) : Prop := ∀ l ∈ L, ∀ c ∈ l, c < 1114112
theorem ins_ch {B : List Wd} (hB : Bo B) {L : List (List Nat)} (h : Ins B L) : Chs L := fun l hl c hc => by
  obtain ⟨e, he, rfl⟩ := List.mem_map.mp (h l hl)
  exact hB.ch e he c hc
theorem wy_lay {w : Wy} (h1 : Chs w.lo) (h2 : Chs w.sh) : (wyD w).canLay0 = true ∧ (wyD w).depth ≤ 32 := by
  unfold wyD sD nd
  constructor
  · rw [PyData.canLay0, PyData.canLayAll0, PyData.canLayAll0, PyData.canLayAll0, PyData.canLayAll0, PyData.canLayAll0, PyData.canLay0, PyData.canLay0, PyData.canLay0, PyData.canLay0, lay_ks, lay_txs h1, lay_txs h2]; rfl
  · rw [PyData.depth, PyData.depthAll, PyData.depthAll, PyData.depthAll, PyData.depthAll, PyData.depthAll, PyData.depth, PyData.depth, PyData.depth, PyData.depth, dep_txs, dep_txs]
    have := dep_ks w.r
    omega
theorem okO_wy {L : List Wy} (h : ∀ w ∈ L, Chs w.lo ∧ Chs w.sh) : LD.okO (L.map wyD) = true := by
  unfold LD.okO
  rw [List.all_eq_true]
  intro a ha
  obtain ⟨w, hw, rfl⟩ := List.mem_map.mp ha
  obtain ⟨h1, h2⟩ := wy_lay (h w hw).1 (h w hw).2
  rw [h1, decide_eq_true h2, Bool.true_and, Bool.true_and, List.all_eq_true]
  intro b hb
  obtain ⟨v, _, rfl⟩ := List.mem_map.mp hb
  obtain ⟨r, hr, _⟩ := lt_wy w v
  rw [hr]; rfl
theorem best_ok (L : List Wy) : ∀ k, k < L.length → ∃ (m : Nat) (b : Wy), argBest (LD.btD (L.map wyD)) k = m ∧ m ≤ k ∧ L[m]? = some b ∧ ∀ (j : Nat) (w : Wy), j ≤ k → L[j]? = some w → b.p ≤ w.p
  | 0, h => ⟨0, L[0], rfl, Nat.le_refl _, List.getElem?_eq_getElem h, fun j w hj e => by
      have : j = 0 := by omega
      subst this
      rw [List.getElem?_eq_getElem h] at e; cases e; exact Nat.le_refl _⟩
  | k + 1, h => by
    obtain ⟨m, b, e1, e2, e3, e4⟩ := best_ok L k (by omega)
    have ek : L[k + 1]? = some L[k + 1] := List.getElem?_eq_getElem h
    have bt : LD.btD (L.map wyD) (k + 1) m = (LD.ltd (wyD L[k + 1]) (wyD b)).getD false := by
      unfold LD.btD
      rw [List.getD_eq_getElem?_getD, List.getD_eq_getElem?_getD, List.getElem?_map, List.getElem?_map, ek, e3]; rfl
    obtain ⟨r, hr, r1, r2⟩ := lt_wy L[k + 1] b
    rw [hr] at bt
    have ea : argBest (LD.btD (L.map wyD)) (k + 1) = if r = true then k + 1 else m := by
      show (if LD.btD (L.map wyD) (k + 1) (argBest (LD.btD (L.map wyD)) k) = true then k + 1 else argBest (LD.btD (L.map wyD)) k) = _
      rw [e1, bt]; rfl
    cases r with
    | true =>
      rw [if_pos rfl] at ea
      refine ⟨k + 1, L[k + 1], ea, Nat.le_refl _, ek, fun j w hj e => ?_⟩
      by_cases z : j = k + 1
      · subst z; rw [ek] at e; cases e; exact Nat.le_refl _
      · exact Nat.le_trans (r1 rfl) (e4 j w (by omega) e)
    | false =>
      rw [if_neg (by simp)] at ea
      refine ⟨m, b, ea, by omega, e3, fun j w hj e => ?_⟩
      by_cases z : j = k + 1
      · subst z; rw [ek] at e; cases e; exact r2 rfl
      · exact e4 j w (by omega) e
theorem min_ok {O : Mp} (hO : O ≠ []) : ∃ b ∈ O, ((ddC O).map (·.2))[LD.minI ((ddC O).map (·.2))]? = some (wyD b.2) ∧ ∀ q ∈ O, b.2.p ≤ q.2.p := by
  have ec : (ddC O).map (·.2) = (O.map (·.2)).map wyD := by unfold ddC; rw [List.map_map, List.map_map]; rfl
  rw [ec]
  have hl : 0 < O.length := List.length_pos_iff.mpr hO
  obtain ⟨m, b, e1, e2, e3, e4⟩ := best_ok (O.map (·.2)) (O.length - 1) (by rw [List.length_map]; omega)
  rw [List.getElem?_map] at e3
  obtain ⟨q, hq, rfl⟩ := Option.map_eq_some_iff.mp e3
  refine ⟨q, List.mem_of_getElem? hq, ?_, fun z hz => ?_⟩
  · unfold LD.minI
    rw [List.length_map, List.length_map, e1, List.getElem?_map, List.getElem?_map, hq]; rfl
  · obtain ⟨j, hj⟩ := List.mem_iff_getElem?.mp hz
    have := (List.getElem?_eq_some_iff.mp hj).1
    exact e4 j z.2 (by omega) (by rw [List.getElem?_map, hj]; rfl)
theorem ddC_len (M : Mp) : (ddC M).length = M.length := by unfold ddC; rw [List.length_map]
theorem put_len1 (M : Mp) (r : Rs) (w : Wy) : (putM M r w).length ≤ M.length + 1 := by
  unfold putM
  split
  · rw [List.length_map]; omega
  · rw [List.length_append]; exact Nat.le_refl _
theorem offs_len : ∀ (ws : List Wy) (O : Mp), (offs O ws).length ≤ O.length + ws.length
  | [], O => Nat.le_refl _
  | w :: ws, O => by
    have h1 := offs_len ws (offM O w)
    have h2 := put_len1 O w.r (minW w ((getM O w.r).getD w))
    show (offs (offM O w) ws).length ≤ _
    unfold offM at h1 ⊢
    rw [List.length_cons]; omega
theorem set_ne {α : Type} {l : List α} {i j : Nat} {x : α} (h : i ≠ j) : (l.set i x)[j]? = l[j]? := List.getElem?_set_ne h
theorem set_eq {α : Type} {l : List α} {i : Nat} {x y : α} (h : l[i]? = some y) : (l.set i x)[i]? = some x := by rw [List.getElem?_set_self (List.getElem?_eq_some_iff.mp h).1]
theorem set_self {α : Type} {l : List α} {i : Nat} {x : α} (h : l[i]? = some x) : l.set i x = l := by
  obtain ⟨hl, rfl⟩ := List.getElem?_eq_some_iff.mp h
  exact List.set_getElem_self hl
theorem foldl_snoc {α β : Type} (f : α → β → α) (a : α) (l : List β) (x : β) : (l ++ [x]).foldl f a = f (l.foldl f a) x := by rw [List.foldl_append]; rfl
theorem wy_get {L : List Wy} {i : Nat} {d : D} (h : (L.map wyD)[i]? = some d) : ∃ w, L[i]? = some w ∧ d = wyD w := by
  rw [List.getElem?_map] at h
  obtain ⟨e, h1, h2⟩ := Option.map_eq_some_iff.mp h
  exact ⟨e, h1, h2.symm⟩
theorem chs_off {O : Mp} {w : Wy} (hw : Chs w.lo ∧ Chs w.sh) (hO : ∀ q ∈ O, Chs q.2.lo ∧ Chs q.2.sh) : ∀ q ∈ offM O w, Chs q.2.lo ∧ Chs q.2.sh := fun q hq => by
  rcases off_mem hq with e | e
  · subst e; exact hw
  · exact hO q e
theorem chs_offs : ∀ {ws : List Wy} {O : Mp}, (∀ w ∈ ws, Chs w.lo ∧ Chs w.sh) → (∀ q ∈ O, Chs q.2.lo ∧ Chs q.2.sh) → ∀ q ∈ offs O ws, Chs q.2.lo ∧ Chs q.2.sh
  | [], _, _, h => h
  | w :: ws, O, hw, hO => chs_offs (ws := ws) (O := offM O w) (fun z hz => hw z (List.mem_cons_of_mem _ hz)) (chs_off (hw w (List.mem_cons_self ..)) hO)
theorem offer_ok {O : Mp} {ws : List Wy} {ω : Sto} {i j : Nat} (hij : i ≠ j) (hi : ω[i]? = some (.dd (ddC O))) (hj : ω[j]? = some (.lst ((ws.map wyD).map .fz))) (hw : ∀ w ∈ ws, Chs w.lo ∧ Chs w.sh) (hO : ∀ q ∈ O, Chs q.2.lo ∧ Chs q.2.sh) (hl : O.length + ws.length ≤ 1000) :
    F_offer [.rf i, .rf j] ω = .ok (.fz .none) ((ω.set j .dead).set i (.dd (ddC (offs O ws)))) := by
  obtain ⟨x, ω', e, rfl, rfl⟩ := os_run (n := 4) (g := g_offer) (xs := [.rf i, .rf j]) (ω := ω) (ρ := [some (.rf i), some (.rf j), none, none]) (T := fun x ω' => x = .fz .none ∧ ω' = (ω.set j .dead).set i (.dd (ddC (offs O ws)))) rfl (by
    unfold g_offer
    refine os_for (fun n ρ ω' => (∃ t2 t3, ρ = [some (.rf i), some (.rf j), t2, t3]) ∧ ω' = (ω.set j .dead).set i (.dd (ddC (offs O (ws.take n))))) (ds := ws.map wyD) (ω1 := ω.set j .dead) (sv_isq (i := j) (sv_var rfl) hj) ⟨⟨none, none, rfl⟩, ?_⟩ ?_ ?_
    · rw [List.take_zero]
      show ω.set j .dead = (ω.set j .dead).set i (.dd (ddC O))
      have h : (ω.set j .dead)[i]? = some (.dd (ddC O)) := (set_ne (Ne.symm hij)).trans hi
      exact (set_self h).symm
    · rintro n d ρ ω' hd ⟨⟨t2, t3, rfl⟩, rfl⟩
      obtain ⟨w, hwn, rfl⟩ := wy_get hd
      have hlt := (List.getElem?_eq_some_iff.mp hwn).1
      have hOn := chs_offs (ws := ws.take n) (O := O) (fun w hm => hw w (List.mem_of_mem_take hm)) hO
      have hln : (offs O (ws.take n)).length ≤ 1000 := by
        have := offs_len (ws.take n) O
        rw [List.length_take] at this; omega
      have ex : offs O (ws.take (n + 1)) = offM (offs O (ws.take n)) w := by
        rw [take_get hwn]; unfold offs; rw [foldl_snoc]
      rw [ex]
      generalize offs O (ws.take n) = P at hOn hln
      have hc : ((ω.set j .dead).set i (.dd (ddC P)))[i]? = some (.dd (ddC P)) := set_eq ((set_ne (Ne.symm hij)).trans hi)
      refine ⟨[some (.rf i), some (.rf j), some (.fz (wyD w)), t3], _, rfl, ?_⟩
      have x1 := (ix4 w).2.1
      refine oq_asg (x := .fz (sD w.r)) (ω1 := (ω.set j .dead).set i (.dd (ddC P))) (ρ1 := [some (.rf i), some (.rf j), some (.fz (wyD w)), some (.fz (sD w.r))]) (sv_lift (ev_op (rv := .fz (sD w.r)) (ev_var rfl) ev_c rfl rfl x1)) rfl ?_
      have mw := hw w (List.mem_of_getElem? hwn)
      have hg : ∃ v : Wy, orD (getDD (ddC P) (sD w.r)) (.fz (wyD w)) = .fz (wyD v) ∧ v = (getM P w.r).getD w ∧ Chs v.lo ∧ Chs v.sh := by
        rw [getDD_C]
        cases g : getM P w.r with
        | none => exact ⟨w, rfl, rfl, mw⟩
        | some v => exact ⟨v, rfl, rfl, hOn _ (getM_mem g)⟩
      obtain ⟨v, ev, evd, cv⟩ := hg
      have g2 := sv_ddget2 (ρ := [some (.rf i), some (.rf j), some (.fz (wyD w)), some (.fz (sD w.r))]) (fd := varS 0) (fk := liftP (pVar 3)) (fx := liftP (pVar 2)) (sv_var rfl) hc (sv_lift (ev_var rfl)) (sv_lift (ev_var rfl)) (key_sD w.r) hc
      rw [ev] at g2
      have mn : minDD [wyD w, wyD v] = some (.fz (wyD (minW w v))) := by
        have ho : LD.okO [wyD w, wyD v] = true := okO_wy (L := [w, v]) fun z hz => by
          rcases List.mem_cons.mp hz with e | hz
          · subst e; exact mw
          · rw [List.mem_singleton.mp hz]; exact cv
        show (if LD.okO [wyD w, wyD v] = true then some (RV.fz (if LD.ltd (wyD v) (wyD w) = some true then wyD v else wyD w)) else none) = _
        rw [if_pos ho]
        unfold minW
        split <;> rfl
      refine os_nx (sv_ddput (d := wyD (minW w v)) (k := sD w.r) (sv_cb (xs := [.fz (wyD w), .fz (wyD v)]) (ds := [wyD w, wyD v]) (sv_cons (sv_lift (ev_var rfl)) (sv_cons g2 sv_nil)) rfl mn) (sv_var rfl) (sv_lift (ev_var rfl)) (key_sD w.r) hc (by rw [ddC_len]; omega)) ⟨⟨_, _, rfl⟩, ?_⟩
      rw [List.set_set, putDD_C]
      unfold offM
      rw [← evd]
    · rintro ρ ω' ⟨⟨t2, t3, rfl⟩, rfl⟩
      rw [List.length_map, List.take_length]
      exact ⟨rfl, rfl⟩)
  exact e
structure Bd (W O : Mp) : Prop where
  w : ∀ q ∈ W, q.2.p ≤ 3 + 3 * W.length
  o : ∀ q ∈ O, q.2.p ≤ 3 + 3 * W.length
theorem wr_ge {B : List Wd} (hB : Bo B) : ∀ {L : List (List Nat)}, Ins B L → L.length ≤ (wr B L).length
  | [], _ => Nat.zero_le _
  | w :: L, h => by
    obtain ⟨s, hs⟩ := look_in (h w (List.mem_cons_self ..))
    have h1 : 1 ≤ s.length := hB.s1 _ (look_mem hs)
    have h2 := wr_ge hB (L := L) fun z hz => h z (List.mem_cons_of_mem _ hz)
    rw [wr_cons, hs, List.length_cons, List.length_append]
    show L.length + 1 ≤ s.length + _
    omega
theorem ok1_len {B : List Wd} (hB : Bo B) {q : Rs × Wy} (h : Ok1 B q) : q.2.lo.length ≤ q.2.p ∧ q.2.sh.length ≤ q.2.p := by
  have h1 := wr_ge hB h.i
  have h2 := wr_ge hB h.j
  have h3 := congrArg List.length h.e
  rw [List.length_append] at h3
  have := h.p
  omega
theorem next_p {B : List Wd} (hB : Bo B) {a w : Wy} (h : w ∈ nextW B a) : w.p ≤ a.p + 3 := by
  unfold nextW at h
  split at h
  · cases h
  · obtain ⟨e, he, h⟩ := List.mem_filterMap.mp h
    have h3 := hB.s3 e he
    unfold nx at h
    split at h
    · cases h; exact Nat.le_add_right _ _
    · split at h
      · cases h
        show a.p + (e.2.drop a.r.length).length ≤ _
        rw [List.length_drop]; omega
      · cases h
theorem offs_mem : ∀ {ws : List Wy} {O : Mp} {q : Rs × Wy}, q ∈ offs O ws → q ∈ O ∨ ∃ w ∈ ws, q = (w.r, w)
  | [], _, _, h => .inl h
  | w :: ws, O, q, h => by
    rcases offs_mem (ws := ws) (O := offM O w) h with h | ⟨z, hz, e⟩
    · rcases off_mem h with e | e
      · exact .inr ⟨w, List.mem_cons_self .., e⟩
      · exact .inl e
    · exact .inr ⟨z, List.mem_cons_of_mem _ hz, e⟩
theorem bd_start {B : List Wd} (hB : Bo B) : Bd [] (offs [] (firstW B)) := ⟨fun _ z => (by cases z), fun q hq => by
  rcases offs_mem hq with h | ⟨w, hw, rfl⟩
  · cases h
  · obtain ⟨e, he, hw⟩ := List.mem_flatMap.mp hw
    obtain ⟨f, hf, hw⟩ := List.mem_filterMap.mp hw
    unfold firstOf at hw
    split at hw
    · cases hw
      have := hB.s3 f hf
      show f.2.length ≤ 3 + 3 * 0
      omega
    · cases hw⟩
theorem bd_turn {B : List Wd} (hB : Bo B) {W O : Mp} (h : Bd W O) {b : Rs × Wy} (hb : b ∈ O) : Bd (W ++ [b]) (offs (dropM O b.1) (newW B W b)) := by
  have hl : (W ++ [b]).length = W.length + 1 := by rw [List.length_append]; rfl
  constructor
  · intro q hq
    rw [hl]
    rcases List.mem_append.mp hq with hq | hq
    · have := h.w q hq; omega
    · rw [List.mem_singleton.mp hq]; have := h.o b hb; omega
  · intro q hq
    rw [hl]
    rcases offs_mem hq with hq | ⟨w, hw, rfl⟩
    · have := h.o q (List.mem_filter.mp hq).1; omega
    · have h1 := next_p hB (List.mem_filter.mp hw).1
      have h2 := h.o b hb
      show w.p ≤ _
      omega
theorem iv_chs {B : List Wd} (hB : Bo B) {W O : Mp} (h : Iv B W O) : (∀ q ∈ W, Chs q.2.lo ∧ Chs q.2.sh) ∧ ∀ q ∈ O, Chs q.2.lo ∧ Chs q.2.sh :=
  ⟨fun q hq => ⟨ins_ch hB (h.wk q hq).i, ins_ch hB (h.wk q hq).j⟩, fun q hq => ⟨ins_ch hB (h.ok q hq).i, ins_ch hB (h.ok q hq).j⟩⟩
theorem whl_go {c : FTS} {b : FSS} {N C : SEnv → Sto → Prop} {T : SV → Sto → Prop} (I : Nat → SEnv → Sto → Prop) (hs : ∀ m ρ ω, I m ρ ω → (c ρ ω = .ok false ω ∧ N ρ ω) ∨ (c ρ ω = .ok true ω ∧ GoS (b ρ ω) (fun ρ' ω' => ∃ m', m' < m ∧ I m' ρ' ω') (fun _ _ => False) T)) : ∀ (n m : Nat) (ρ : SEnv) (ω : Sto), m < n → I m ρ ω → GoS (whlS c b n ρ ω) N C T
  | 0, m, _, _, h, _ => by omega
  | n + 1, m, ρ, ω, h, h0 => by
    rcases hs m ρ ω h0 with ⟨h1, h2⟩ | ⟨h1, h2⟩
    · refine ⟨?_⟩
      unfold whlS
      rw [h1, RS.bind_ok, if_neg Bool.false_ne_true]
      exact h2
    · have h2 := h2.out
      unfold whlS
      refine .eq (r' := (b ρ ω).bind fun fl ω2 => match fl with
        | .nx ρ2 => whlS c b n ρ2 ω2
        | .ct ρ2 => whlS c b n ρ2 ω2
        | .bk ρ2 => .ok (.nx ρ2) ω2
        | .rt x => .ok (.rt x) ω2) (by rw [h1, RS.bind_ok, if_pos rfl] <;> rfl) ?_
      cases q : b ρ ω with
      | bad => rw [q] at h2; exact h2.elim
      | er x o => rw [q] at h2; exact h2.elim
      | ok fl o =>
        rw [q] at h2
        cases fl with
        | nx r =>
          obtain ⟨m', hm, hI⟩ := h2
          exact whl_go I hs n m' r o (by omega) hI
        | ct r => exact h2.elim
        | rt v => exact ⟨h2⟩
        | bk r => exact h2.elim
theorem compv_filt {gt : FGS} {ft : FTS} {fe : FES} {ω : Sto} {α : Type} (e : α → D) (f : α → SV) (p : α → Bool) (I : SEnv → Prop) : ∀ (xs : List α) (ρ : SEnv) (acc : List SV), I ρ → acc.length + xs.length ≤ 1000000 → (∀ x ∈ xs, ∀ ρ, I ρ → ∃ ρ', gt (.fz (e x)) ρ ω = .ok ρ' ω ∧ ft ρ' ω = .ok (p x) ω ∧ fe ρ' ω = .ok (f x) ω ∧ I ρ') → compvS gt ft fe (xs.map e) ρ ω acc = .ok (acc ++ (xs.filter p).map f) ω
  | [], ρ, acc, _, _, _ => by show RS.ok acc ω = _; rw [List.filter_nil, List.map_nil, List.append_nil]
  | x :: r, ρ, acc, h0, hl, hs => by
    obtain ⟨ρ', h1, h2, h3, h4⟩ := hs x List.mem_cons_self ρ h0
    rw [List.length_cons] at hl
    show ((gt (.fz (e x)) ρ ω).bind _) = _
    rw [h1, RS.bind_ok, h2, RS.bind_ok]
    cases hp : p x with
    | true =>
      rw [if_pos rfl, h3, RS.bind_ok, if_pos (by omega), compv_filt e f p I r ρ' _ h4 (by rw [List.length_append, List.length_singleton]; omega) fun y hy => hs y (List.mem_cons_of_mem _ hy), List.filter_cons, if_pos hp, List.append_assoc]
      rfl
    | false =>
      rw [if_neg Bool.false_ne_true, compv_filt e f p I r ρ' _ h4 (by omega) fun y hy => hs y (List.mem_cons_of_mem _ hy), List.filter_cons, if_neg (by rw [hp]; exact Bool.false_ne_true)]
theorem getM_in (M : Mp) (r : Rs) : (getM M r).isSome = decide (r ∈ M.map (·.1)) := by
  unfold getM
  rw [Option.isSome_map]
  by_cases h : r ∈ M.map (·.1)
  · rw [decide_eq_true h, List.find?_isSome]
    obtain ⟨q, h1, h2⟩ := List.mem_map.mp h
    exact ⟨q, h1, decide_eq_true h2⟩
  · rw [decide_eq_false h]
    cases q : (M.find? fun q => decide (q.1 = r)).isSome with
    | false => rfl
    | true =>
      rw [List.find?_isSome] at q
      obtain ⟨z, h1, h2⟩ := q
      exact absurd (List.mem_map.mpr ⟨z, h1, of_decide_eq_true h2⟩) h
theorem getM_of {M : Mp} (h : (M.map (·.1)).Nodup) {q : Rs × Wy} (hq : q ∈ M) : getM M q.1 = some q.2 := by
  cases g : getM M q.1 with
  | none =>
    have := getM_in M q.1
    rw [g, decide_eq_true (List.mem_map.mpr ⟨q, hq, rfl⟩)] at this
    cases this
  | some w =>
    have := key_eq h hq (getM_mem g) rfl
    rw [this]
theorem app_at {α : Type} {l m : List α} {i : Nat} {x : α} (h : l[i]? = some x) : (l ++ m)[i]? = some x := by
  rw [List.getElem?_append_left (List.getElem?_eq_some_iff.mp h).1]; exact h
theorem lt_of_at {α : Type} {l : List α} {i : Nat} {x : α} (h : l[i]? = some x) : i < l.length := (List.getElem?_eq_some_iff.mp h).1
theorem nextW_len {B : List Wd} (hB : Bo B) (w : Wy) : (nextW B w).length ≤ 4 := by
  unfold nextW
  split
  · exact Nat.zero_le _
  · exact Nat.le_trans (fm_len _ _) hB.l4
structure Tn (B : List Wd) (a b m : Nat) (ρ : SEnv) (ω : Sto) : Prop where
  ex : ∃ (W O : Mp) (t3 : Option SV), ρ = [some (.fz (bkD B)), some (.rf a), some (.rf b), t3] ∧ ω[a]? = some (.dd (ddC W)) ∧ ω[b]? = some (.dd (ddC O)) ∧ Full B W O ∧ Bd W O ∧ m = 20 - W.length
theorem cheapest_ok {B : List Wd} (hB : Bo B) (ω0 : Sto) : ∃ (W : Mp) (ω' : Sto), F_cheapest_ways [.fz (bkD B)] ω0 = .ok (.rf ω0.length) ω' ∧ ω'[ω0.length]? = some (.dd (ddC W)) ∧ Full B W [] ∧ Bd W [] := by
  have fo := first_ok hB
  obtain ⟨x, ω', e, W, rfl, h1, h2, h3⟩ := os_run (n := 4) (g := g_cheapest_ways) (xs := [.fz (bkD B)]) (ω := ω0) (ρ := [some (.fz (bkD B)), none, none, none]) (T := fun x ω' => ∃ W, x = .rf ω0.length ∧ ω'[ω0.length]? = some (.dd (ddC W)) ∧ Full B W [] ∧ Bd W []) rfl (by
    unfold g_cheapest_ways
    refine oq_asg (x := .rf ω0.length) (ω1 := ω0 ++ [.dd []]) (ρ1 := [some (.fz (bkD B)), some (.rf ω0.length), none, none]) rfl rfl ?_
    have l1 : (ω0 ++ [Cell.dd []]).length = ω0.length + 1 := by rw [List.length_append]; rfl
    refine oq_asg (x := .rf (ω0.length + 1)) (ω1 := ω0 ++ [.dd []] ++ [.dd []]) (ρ1 := [some (.fz (bkD B)), some (.rf ω0.length), some (.rf (ω0.length + 1)), none]) (by unfold ddnewS; rw [l1]) rfl ?_
    have l2 : (ω0 ++ [Cell.dd []] ++ [Cell.dd []]).length = ω0.length + 2 := by rw [List.length_append, l1]; rfl
    have ca : (ω0 ++ [Cell.dd []] ++ [Cell.dd []])[ω0.length]? = some (.dd (ddC [])) := app_at snoc_last
    have cb : (ω0 ++ [Cell.dd []] ++ [Cell.dd []])[ω0.length + 1]? = some (.dd (ddC [])) := by rw [← l1]; exact snoc_last
    generalize ω0 ++ [Cell.dd []] ++ [Cell.dd []] = ω1 at l2 ca cb
    have lf := firstW_len hB
    have fl : liftP (pCal F_first_ways 1 (aCons (pVar 0) aNil)) [some (.fz (bkD B)), some (.rf ω0.length), some (.rf (ω0.length + 1)), none] ω1 = .ok (.rf ω1.length) (ω1 ++ [.lst (((firstW B).map wyD).map .fz)]) := sv_liftO (ev_cal (rv := .ow ((firstW B).map wyD)) (ev_cons (ev_var rfl) ev_nil) rfl rfl fo)
    have cj : (ω1 ++ [Cell.lst (((firstW B).map wyD).map .fz)])[ω1.length]? = some (.lst (((firstW B).map wyD).map .fz)) := snoc_last
    have of := offer_ok (i := ω0.length + 1) (j := ω1.length) (ω := ω1 ++ [Cell.lst (((firstW B).map wyD).map .fz)]) (O := []) (ws := firstW B) (by omega) (app_at cb) cj (fun w hw => ⟨ins_ch hB (first_ok1 hB hw).i, ins_ch hB (first_ok1 hB hw).j⟩) (fun _ z => (by cases z)) (by show 0 + _ ≤ _; omega)
    refine oq_drop (x := .fz .none) (sv_calS (xs := [.rf (ω0.length + 1), .rf ω1.length]) (sv_cons (sv_var rfl) (sv_cons fl sv_nil)) rfl of) ?_
    refine os_seq (whl_go (Tn B ω0.length (ω0.length + 1)) (fun m ρ ω hT => ?_) 1000000 20 _ _ (by omega) ⟨[], _, none, rfl, ?_, ?_, start_ok hB, bd_start hB, rfl⟩)
    · obtain ⟨W, O, t3, rfl, ha, hb, hF, hD, rfl⟩ := hT.ex
      have l16 := len16 hB hF.iv
      have ne := sv_ddne (fd := varS 2) (ρ := [some (.fz (bkD B)), some (.rf ω0.length), some (.rf (ω0.length + 1)), t3]) (sv_var rfl) hb
      cases O with
      | nil => exact .inl ⟨sv_bool ne, os_ret (sv_var rfl) ⟨W, rfl, ha, hF, hD⟩⟩
      | cons o1 Or =>
        refine .inr ⟨sv_bool ne, ?_⟩
        obtain ⟨q, hq, hm, hp⟩ := min_ok (O := o1 :: Or) (by simp)
        generalize o1 :: Or = O at *
        obtain ⟨cw, co⟩ := iv_chs hB hF.iv
        have kq := hF.iv.ok q hq
        obtain ⟨_, x1, _, _⟩ := ix4 q.2
        rw [kq.k] at x1
        have oko : LD.okO ((ddC O).map (·.2)) = true := by
          have ec : (ddC O).map (·.2) = (O.map (·.2)).map wyD := by unfold ddC; rw [List.map_map, List.map_map]; rfl
          rw [ec]
          exact okO_wy fun w hw => by
            obtain ⟨z, hz, rfl⟩ := List.mem_map.mp hw
            exact co z hz
        refine oq_asg (x := .fz (wyD q.2)) (ω1 := ω) (ρ1 := [some (.fz (bkD B)), some (.rf ω0.length), some (.rf (ω0.length + 1)), some (.fz (wyD q.2))]) (sv_ddmin (sv_var rfl) hb oko hm) rfl ?_
        have gq : getDD (ddC O) (sD q.1) = some (wyD q.2) := by rw [getDD_C, getM_of hF.iv.on hq]; rfl
        have pop := sv_ddpop (fd := varS 2) (fk := liftP (pOp ixD (pVar 3) (pC (.int 1)))) (ρ := [some (.fz (bkD B)), some (.rf ω0.length), some (.rf (ω0.length + 1)), some (.fz (wyD q.2))]) (sv_var rfl) hb (sv_lift (ev_op (rv := .fz (sD q.1)) (ev_var rfl) ev_c rfl rfl x1)) (key_sD q.1) hb gq
        rw [dropDD_C] at pop
        have ha1 : (ω.set (ω0.length + 1) (.dd (ddC (dropM O q.1))))[ω0.length]? = some (.dd (ddC W)) := (set_ne (by omega)).trans ha
        have hb1 : (ω.set (ω0.length + 1) (.dd (ddC (dropM O q.1))))[ω0.length + 1]? = some (.dd (ddC (dropM O q.1))) := set_eq hb
        generalize ω.set (ω0.length + 1) (.dd (ddC (dropM O q.1))) = ω2 at pop ha1 hb1
        have nw : q.1 ∉ W.map (·.1) := fun z => by
          obtain ⟨a, h1, h2⟩ := List.mem_map.mp z
          exact hF.iv.dj a h1 q hq h2
        have pt := sv_ddput (fd := varS 1) (fk := liftP (pOp ixD (pVar 3) (pC (.int 1)))) (d := wyD q.2) pop (sv_var rfl) (sv_lift (ev_op (rv := .fz (sD q.1)) (ev_var rfl) ev_c rfl rfl x1)) (key_sD q.1) ha1 (by rw [ddC_len]; omega)
        rw [putDD_C, put_new nw] at pt
        refine oq_nx pt ?_
        have ha2 : (ω2.set ω0.length (.dd (ddC (W ++ [(q.1, q.2)]))))[ω0.length]? = some (.dd (ddC (W ++ [q]))) := set_eq ha1
        have hb2 : (ω2.set ω0.length (.dd (ddC (W ++ [(q.1, q.2)]))))[ω0.length + 1]? = some (.dd (ddC (dropM O q.1))) := (set_ne (by omega)).trans hb1
        generalize ω2.set ω0.length (.dd (ddC (W ++ [(q.1, q.2)]))) = ω3 at ha2 hb2
        have sl := ok1_len hB kq
        have pb := hD.o q hq
        have nx2 := next_ok hB kq.n.2 (by omega)
        have nl := nextW_len hB q.2
        have it : liftI (iSeq (pCal F_next_ways 2 (aCons (pVar 0) (aCons (pVar 3) aNil)))) [some (.fz (bkD B)), some (.rf ω0.length), some (.rf (ω0.length + 1)), some (.fz (wyD q.2))] ω3 = .ok ((nextW B q.2).map wyD) ω3 := sv_liftI (ev_iseq (d := .list ((nextW B q.2).map wyD)) (ev_cal (rv := .ow ((nextW B q.2).map wyD)) (ev_cons (ev_var rfl) (ev_cons (ev_var rfl) ev_nil)) rfl rfl nx2) rfl rfl)
        have cp := compv_filt (gt := gnS 0) (ft := boolS (ddinS true (liftP (pOp ixD (pVar 0) (pC (.int 1)))) (varS 1))) (fe := liftP (pVar 0)) (ω := ω3) wyD (fun w => SV.fz (wyD w)) (fun n => !decide (n.r ∈ (W ++ [q]).map (·.1))) (fun ρ => ∃ t0, ρ = [t0, some (.rf ω0.length)]) (nextW B q.2) [none, some (.rf ω0.length)] [] ⟨none, rfl⟩ (by show 0 + _ ≤ _; omega) (by
          rintro w hw ρ ⟨t0, rfl⟩
          refine ⟨[some (.fz (wyD w)), some (.rf ω0.length)], rfl, ?_, sv_lift (ev_var rfl), _, rfl⟩
          have := sv_ddin (neg := true) (fk := liftP (pOp ixD (pVar 0) (pC (.int 1)))) (fd := varS 1) (ρ := [some (.fz (wyD w)), some (.rf ω0.length)]) (sv_lift (ev_op (rv := .fz (sD w.r)) (ev_var rfl) ev_c rfl rfl (ix4 w).2.1)) (sv_var rfl) (key_sD w.r) ha2
          rw [getDD_C, Option.isSome_map, getM_in, Bool.bne_true] at this
          exact sv_bool this)
        rw [List.nil_append] at cp
        have cl := sv_comp (n := 1) (fj := [1]) (ρ := [some (.fz (bkD B)), some (.rf ω0.length), some (.rf (ω0.length + 1)), some (.fz (wyD q.2))]) it cp
        have nf : (newW B W q).length ≤ 4 := Nat.le_trans (List.length_filter_le _ _) nl
        have cj : (ω3 ++ [Cell.lst (((nextW B q.2).filter fun n => !decide (n.r ∈ (W ++ [q]).map (·.1))).map fun w => SV.fz (wyD w))])[ω3.length]? = some (.lst (((newW B W q).map wyD).map .fz)) := by
          rw [List.map_map]; exact snoc_last
        have ol : (dropM O q.1).length ≤ 16 := Nat.le_trans (List.length_filter_le _ _) (by omega)
        have kb2 : Ok1 B (q.2.r, q.2) := by rw [kq.k]; exact kq
        have of := offer_ok (i := ω0.length + 1) (j := ω3.length) (O := dropM O q.1) (ws := newW B W q) (by have := lt_of_at hb2; omega) (app_at hb2) cj (fun w hw => by
          have := (next_ok1 hB kb2 (List.mem_filter.mp hw).1).1
          exact ⟨ins_ch hB this.i, ins_ch hB this.j⟩) (fun z hz => co z (List.mem_filter.mp hz).1) (by omega)
        refine os_drop (x := .fz .none) (sv_calS (xs := [.rf (ω0.length + 1), .rf ω3.length]) (sv_cons (sv_var rfl) (sv_cons cl sv_nil)) rfl of) ⟨20 - (W ++ [q]).length, by rw [List.length_append, List.length_singleton]; omega, ⟨W ++ [q], _, _, rfl, ?_, ?_, turn_ok hB hF hq hp, bd_turn hB hD hq, rfl⟩⟩
        · rw [set_ne (by omega), set_ne (by have := lt_of_at ha2; omega)]
          exact app_at ha2
        · exact set_eq ((set_ne (by have := lt_of_at hb2; omega)).trans (app_at hb2))
    · rw [set_ne (by omega), set_ne (by omega)]
      exact app_at ca
    · exact set_eq ((set_ne (by omega)).trans (app_at cb)))
  exact ⟨W, ω', e, h1, h2, h3⟩
theorem abcd_at {i : Nat} (h : i < 4) : ixS (.str "abcd") (nd i) = some (.fz (tD [97 + i])) := by
  have tab : ∀ c, c < 4 → (("abcd" : Str).cps.toList)[c]? = some (97 + c) := by decide +kernel
  have ln : ("abcd" : Str).length ≤ 1000000 := by decide +kernel
  show (if ("abcd" : Str).length ≤ 1000000 then (atI ("abcd" : Str).cps.toList (i : Int)).map (fun c => RV.fz (.str ⟨#[c]⟩)) else none) = _
  rw [if_pos ln, atI_int (by omega) (tab (i : Int).toNat (by omega)), Int.toNat_natCast]
  rfl
theorem s_y : (PyData.str "y") = .str (tx [121]) := by
  have : ("y" : Str) = tx [121] := by decide +kernel
  rw [this]
theorem pick3 {m : Int} (h0 : 0 ≤ m) (h3 : m < 3) : ∃ ks : List Int, ixD (.list [kD [0], kD [4, 7], kD [11]]) (.int m) = some (.fz (kD ks)) := by
  have : m = 0 ∨ m = 1 ∨ m = 2 := by omega
  rcases this with rfl | rfl | rfl
  · exact ⟨[0], rfl⟩
  · exact ⟨[4, 7], rfl⟩
  · exact ⟨[11], rfl⟩
theorem book_ok (ns : List Int) (hns : ns.length ≤ 63) : ∃ B, Bo B ∧ F__law_book [.list (ns.map .int)] = .ok (.fz (bkD B)) := by
  obtain ⟨c0, e0⟩ := cell_ok ns 0 (by decide) hns
  obtain ⟨w0, h0, f0⟩ := wide_ok c0 9 (by decide) (by decide)
  have m0 : modD (.int w0) (.int 4) = some (.fz (.int (w0 % 4))) := tr_mod (by decide)
  have b0 : 0 ≤ w0 % 4 ∧ w0 % 4 < 4 := ⟨Int.emod_nonneg _ (by decide), Int.emod_lt_of_pos _ (by decide)⟩
  generalize w0 % 4 = xm at m0 b0
  have r0 : rng1 [.int (1 + xm)] = some (nds (List.range (1 + xm).toNat)) := rng1_i (by omega) (by omega)
  obtain ⟨rv, e, B, hB, rfl⟩ := go_run (ds := [.list (ns.map .int)]) (ρ := [some (.fz (.list (ns.map .int))), none, none, none, none, none]) (n := 6) (g := g__law_book) (T := fun v => ∃ B, Bo B ∧ v = .fz (bkD B)) rfl (by
    unfold g__law_book
    refine gs_asg (pv := .ow []) (ρ3 := [some (.fz (.list (ns.map .int))), some (.ow []), none, none, none, none]) (by walk_at "evp") rfl rfl ?_
    refine gs_for (fun i ρ => ∃ (B : List Wd) (t2 t3 t4 t5 : Option PV), ρ = [some (.fz (.list (ns.map .int))), some (.ow (B.map wD)), t2, t3, t4, t5] ∧ B.length = i ∧ (∀ e ∈ B, 1 ≤ e.2.length ∧ e.2.length ≤ 3 ∧ ∀ c ∈ e.1, c < 1114112) ∧ B.map (fun e => e.1.head?) = (List.range i).map fun k => some (97 + k)) (ds := nds (List.range (1 + xm).toNat)) (ρ1 := [some (.fz (.list (ns.map .int))), some (.ow []), none, none, none, none]) (ev_irng (ds := [.int (1 + xm)]) (ev_cons (ev_op (rv := .fz (.int (1 + xm))) ev_c (ev_op (rv := .fz (.int xm)) (ev_cal (rv := .fz (.int w0)) (ev_cons (ev_cal (rv := .fz (.int c0)) (ev_cons (ev_var rfl) (ev_cons ev_c ev_nil)) rfl rfl e0) (ev_cons ev_c ev_nil)) rfl rfl f0) ev_c rfl rfl m0) rfl rfl (tr_add _ _)) ev_nil) rfl r0) ⟨[], none, none, none, none, rfl, rfl, (fun e h => by cases h), rfl⟩ ?_ ?_
    · rintro i d ρ hi ⟨B, t2, t3, t4, t5, rfl, hBl, hG, hN⟩
      obtain ⟨k, hk, rfl⟩ := nds_get hi
      obtain ⟨hil, e⟩ := List.getElem?_eq_some_iff.mp hk
      rw [List.getElem_range] at e
      subst e
      rw [List.length_range] at hil
      have hi4 : i < 4 := by omega
      obtain ⟨c1, e1⟩ := cell_ok ns (1 + (i : Int)) (by omega) hns
      obtain ⟨w1, h1, f1⟩ := wide_ok c1 (i : Int) (by omega) (by omega)
      have a1 : addD (.int 1) (nd i) = some (.fz (.int (1 + (i : Int)))) := rfl
      have m3 : modD (.int w1) (.int 3) = some (.fz (.int (w1 % 3))) := tr_mod (by decide)
      have b3 : 0 ≤ w1 % 3 ∧ w1 % 3 < 3 := ⟨Int.emod_nonneg _ (by decide), Int.emod_lt_of_pos _ (by decide)⟩
      generalize w1 % 3 = zm at m3 b3
      have r3 : rng1 [.int (1 + zm)] = some (nds (List.range (1 + zm).toNat)) := rng1_i (by omega) (by omega)
      refine ⟨_, rfl, ?_⟩
      refine gs_asg (pv := .fz (.int w1)) (ρ3 := [some (.fz (.list (ns.map .int))), some (.ow (B.map wD)), some (.fz (nd i)), some (.fz (.int w1)), t4, t5]) (ev_cal (rv := .fz (.int w1)) (ev_cons (ev_cal (rv := .fz (.int c1)) (ev_cons (ev_var rfl) (ev_cons (ev_op (rv := .fz (.int (1 + (i : Int)))) ev_c (ev_var rfl) rfl rfl a1) ev_nil)) rfl rfl e1) (ev_cons (ev_var rfl) ev_nil)) rfl rfl f1) rfl rfl ?_
      refine gs_asg (pv := .ow []) (ρ3 := [some (.fz (.list (ns.map .int))), some (.ow (B.map wD)), some (.fz (nd i)), some (.fz (.int w1)), some (.ow []), t5]) (by walk_at "evp") rfl rfl ?_
      refine gs_for (fun j ρ => ∃ (ss : Rs) (r : Int) (t5 : Option PV), ρ = [some (.fz (.list (ns.map .int))), some (.ow (B.map wD)), some (.fz (nd i)), some (.fz (.int r)), some (.ow (ss.map kD)), t5] ∧ ss.length = j ∧ 0 ≤ r) (ds := nds (List.range (1 + zm).toNat)) (ρ1 := [some (.fz (.list (ns.map .int))), some (.ow (B.map wD)), some (.fz (nd i)), some (.fz (.int w1)), some (.ow []), t5]) (ev_irng (ds := [.int (1 + zm)]) (ev_cons (ev_op (rv := .fz (.int (1 + zm))) ev_c (ev_op (rv := .fz (.int zm)) (ev_var rfl) ev_c rfl rfl m3) rfl rfl (tr_add _ _)) ev_nil) rfl r3) ⟨[], w1, t5, rfl, rfl, h1⟩ ?_ ?_
      · rintro j d ρ hj ⟨ss, r, t5, rfl, hsl, hr⟩
        obtain ⟨k, hk, rfl⟩ := nds_get hj
        have hjl : j < (1 + zm).toNat := by have := (List.getElem?_eq_some_iff.mp hk).1; simpa using this
        have d4 : divD (.int r) (.int 3) = some (.fz (.int (r / 3))) := tr_div ⟨by decide, by decide⟩
        have n4 : 0 ≤ r / 3 := Int.ediv_nonneg hr (by decide)
        generalize r / 3 = r3 at d4 n4
        have m4 : modD (.int r3) (.int 3) = some (.fz (.int (r3 % 3))) := tr_mod (by decide)
        obtain ⟨ks, ek⟩ := pick3 (m := r3 % 3) (Int.emod_nonneg _ (by decide)) (Int.emod_lt_of_pos _ (by decide))
        generalize r3 % 3 = rm at m4 ek
        have hlen : (ss.map kD).length < 1000000 := by rw [List.length_map]; omega
        refine ⟨_, rfl, ?_⟩
        refine gs_asg (pv := .fz (.int r3)) (ρ3 := [some (.fz (.list (ns.map .int))), some (.ow (B.map wD)), some (.fz (nd i)), some (.fz (.int r3)), some (.ow (ss.map kD)), some (.fz (nd k))]) (ev_op (rv := .fz (.int r3)) (ev_var rfl) ev_c rfl rfl d4) rfl rfl ?_
        refine go_drop (ev_app (d := kD ks) (x := [some (.fz (.list (ns.map .int))), some (.ow (B.map wD)), some (.fz (nd i)), some (.fz (.int r3)), some (.ow (ss.map kD ++ [kD ks])), some (.fz (nd k))]) rfl (ev_op (rv := .fz (kD ks)) (dx := .list [kD [0], kD [4, 7], kD [11]]) (by walk_at "ev") (ev_op (rv := .fz (.int rm)) (ev_var rfl) ev_c rfl rfl m4) rfl rfl ek) rfl rfl hlen rfl) ⟨ss ++ [ks], r3, _, by rw [List.map_append]; rfl, by rw [List.length_append, hsl]; rfl, n4⟩
      · rintro ρ ⟨ss, r, t5, rfl, hsl, hr⟩
        rw [nds_len, List.length_range] at hsl
        have d4 : divD (.int r) (.int 3) = some (.fz (.int (r / 3))) := tr_div ⟨by decide, by decide⟩
        generalize r / 3 = r3 at d4
        have m4 : modD (.int r3) (.int 4) = some (.fz (.int (r3 % 4))) := tr_mod (by decide)
        have b4 : 0 ≤ r3 % 4 ∧ r3 % 4 < 4 := ⟨Int.emod_nonneg _ (by decide), Int.emod_lt_of_pos _ (by decide)⟩
        generalize r3 % 4 = rm at m4 b4
        have ab := abcd_at hi4
        have mu := mulS_tx (c := 121) (i := rm) b4.1 (by omega)
        have ad := addS_tx (a := [97 + i]) (b := List.replicate rm.toNat 121) (by rw [List.length_replicate]; show 1 + _ ≤ _; omega)
        have hlen : (B.map wD).length < 1000000 := by rw [List.length_map]; omega
        rw [s_y]
        refine go_drop (ev_app (d := wD ([97 + i] ++ List.replicate rm.toNat 121, ss)) (x := [some (.fz (.list (ns.map .int))), some (.ow (B.map wD ++ [wD ([97 + i] ++ List.replicate rm.toNat 121, ss)])), some (.fz (nd i)), some (.fz (.int r)), some (.ow (ss.map kD)), t5]) rfl (ev_tup (ds := [tD ([97 + i] ++ List.replicate rm.toNat 121), .tuple (ss.map kD)]) (ev_cons (ev_op (rv := .fz (tD ([97 + i] ++ List.replicate rm.toNat 121))) (dx := tD [97 + i]) (dy := tD (List.replicate rm.toNat 121)) (ev_op (rv := .fz (tD [97 + i])) ev_c (ev_var rfl) rfl rfl ab) (ev_op (rv := .fz (tD (List.replicate rm.toNat 121))) ev_c (ev_op (rv := .fz (.int rm)) (ev_op (rv := .fz (.int r3)) (ev_var rfl) ev_c rfl rfl d4) ev_c rfl rfl m4) rfl rfl mu) rfl rfl ad) (ev_cons (ev_cb (rv := .fz (.tuple (ss.map kD))) (ev_cons (ev_own rfl) ev_nil) rfl rfl) ev_nil)) rfl (Nat.le_of_ble_eq_true rfl)) rfl rfl hlen rfl) ⟨B ++ [([97 + i] ++ List.replicate rm.toNat 121, ss)], _, _, _, _, by rw [List.map_append]; rfl, by rw [List.length_append, hBl]; rfl, fun e he => ?_, ?_⟩
        · rcases List.mem_append.mp he with z | z
          · exact hG e z
          · rw [List.mem_singleton.mp z]
            refine ⟨by show 1 ≤ ss.length; omega, by show ss.length ≤ 3; omega, fun c hc => ?_⟩
            rcases List.mem_append.mp hc with z | z
            · rw [List.mem_singleton.mp z]; omega
            · rw [List.eq_of_mem_replicate z]; decide
        · rw [List.map_append, hN, List.range_succ, List.map_append]; rfl
    · rintro ρ ⟨B, t2, t3, t4, t5, rfl, hBl, hG, hN⟩
      rw [nds_len, List.length_range] at hBl hN
      refine go_ret (pv := .fz (bkD B)) (ev_cb (rv := .fz (bkD B)) (ev_cons (ev_own rfl) ev_nil) rfl rfl) rfl ⟨B, ⟨by omega, ?_, fun e he => (hG e he).1, fun e he => (hG e he).2.1, fun e he => (hG e he).2.2⟩, rfl⟩
      have nd1 : ((B.map (·.1)).map List.head?).Nodup := by
        rw [List.map_map]
        show (B.map fun e => e.1.head?).Nodup
        rw [hN]
        exact List.pairwise_map.mpr (List.nodup_range.imp fun h e => h (by have := Option.some.inj e; omega))
      exact List.Pairwise.of_map List.head? (fun a b h e => h (by rw [e])) nd1)
  exact ⟨B, hB, e⟩
noncomputable abbrev Row := List (List Nat) × Rs
noncomputable def rwD (q : Row) : D := .tuple [.list (q.1.map tD), sD q.2]
noncomputable def ext (q : Row) (e : Wd) : Option Row := if q.2.length + e.2.length < 7 then some (q.1 ++ [e.1], q.2 ++ e.2) else none
noncomputable def stepR (B : List Wd) (A : List Row) : List Row := A.flatMap fun q => B.filterMap (ext q)
noncomputable def gen (B : List Wd) : Nat → List Row
  | 0 => B.map fun e => ([e.1], e.2)
  | k + 1 => stepR B (gen B k)
noncomputable def rowsN (B : List Wd) : Nat → List Row
  | 0 => gen B 0
  | k + 1 => rowsN B k ++ gen B (k + 1)
theorem gen_ok {B : List Wd} (hB : Bo B) : ∀ (k : Nat) (q : Row), q ∈ gen B k → q.1.length = k + 1 ∧ Ins B q.1 ∧ q.2 = wr B q.1 ∧ q.2 ≠ []
  | 0, q, h => by
    obtain ⟨e, he, rfl⟩ := List.mem_map.mp h
    have le := look_of hB.nd he
    refine ⟨rfl, fun x hx => ?_, ?_, fun z => ?_⟩
    · rw [List.mem_singleton.mp hx]; exact List.mem_map.mpr ⟨e, he, rfl⟩
    · show e.2 = wr B [e.1]
      rw [wr_cons, le, wr_nil, List.append_nil]; rfl
    · have := hB.s1 e he
      have z : e.2 = [] := z
      rw [z] at this; exact absurd this (by decide)
  | k + 1, q, h => by
    obtain ⟨p, hp, h⟩ := List.mem_flatMap.mp h
    obtain ⟨e, he, h⟩ := List.mem_filterMap.mp h
    obtain ⟨a1, a2, a3, a4⟩ := gen_ok hB k p hp
    have le := look_of hB.nd he
    unfold ext at h
    split at h
    · cases h
      refine ⟨by show (p.1 ++ [e.1]).length = _; rw [List.length_append, a1]; rfl, fun x hx => ?_, ?_, fun z => ?_⟩
      · rcases List.mem_append.mp hx with hx | hx
        · exact a2 x hx
        · rw [List.mem_singleton.mp hx]; exact List.mem_map.mpr ⟨e, he, rfl⟩
      · show p.2 ++ e.2 = wr B (p.1 ++ [e.1])
        rw [wr_snoc, le, a3]; rfl
      · exact a4 (List.append_eq_nil_iff.mp z).1
    · cases h
noncomputable abbrev NR (l : List Row) : Prop := l.Pairwise fun x y => x.1 ≠ y.1
theorem gen_nr {B : List Wd} (hB : Bo B) : ∀ k, NR (gen B k)
  | 0 => List.pairwise_map.mpr ((List.pairwise_map.mp hB.nd).imp fun h e => h (List.cons.inj e).1)
  | k + 1 => by
    refine List.pairwise_flatMap.mpr ⟨fun q _ => List.pairwise_filterMap.mpr ((List.pairwise_map.mp hB.nd).imp fun {a b} h x hx y hy e => ?_), (gen_nr hB k).imp fun {a b} h x hx y hy e => ?_⟩
    · unfold ext at hx hy
      split at hx
      · split at hy
        · cases hx; cases hy
          exact h (List.cons.inj (List.append_cancel_left e)).1
        · cases hy
      · cases hx
    · obtain ⟨e1, _, hx⟩ := List.mem_filterMap.mp hx
      obtain ⟨e2, _, hy⟩ := List.mem_filterMap.mp hy
      unfold ext at hx hy
      split at hx
      · split at hy
        · cases hx; cases hy
          exact h (List.append_inj_left' e rfl)
        · cases hy
      · cases hx
theorem rows_ok1 {B : List Wd} (hB : Bo B) : ∀ (k : Nat), NR (rowsN B k) ∧ ∀ q ∈ rowsN B k, q.1.length ≤ k + 1 ∧ Ins B q.1 ∧ q.2 = wr B q.1
  | 0 => ⟨gen_nr hB 0, fun q hq => by obtain ⟨a, b, c, _⟩ := gen_ok hB 0 q hq; exact ⟨by omega, b, c⟩⟩
  | k + 1 => by
    obtain ⟨h1, h2⟩ := rows_ok1 hB k
    refine ⟨List.pairwise_append.mpr ⟨h1, gen_nr hB (k + 1), fun a ha b hb e => ?_⟩, fun q hq => ?_⟩
    · have l1 := (h2 a ha).1
      have l2 := (gen_ok hB (k + 1) b hb).1
      rw [e] at l1; omega
    · rcases List.mem_append.mp hq with hq | hq
      · obtain ⟨a, b, c⟩ := h2 q hq; exact ⟨by omega, b, c⟩
      · obtain ⟨a, b, c, _⟩ := gen_ok hB (k + 1) q hq; exact ⟨by omega, b, c⟩
theorem gen_len {B : List Wd} (hB : Bo B) : ∀ k, (gen B k).length ≤ 4 ^ (k + 1)
  | 0 => by unfold gen; rw [List.length_map]; exact hB.l4
  | k + 1 => by
    have h1 := gen_len hB k
    have h2 := flat_len (fun q => B.filterMap (ext q)) 4 (fun q => Nat.le_trans (fm_len _ _) hB.l4) (gen B k)
    show (stepR B (gen B k)).length ≤ _
    unfold stepR
    have : 4 ^ (k + 1 + 1) = 4 * 4 ^ (k + 1) := by rw [Nat.pow_succ]; omega
    omega
theorem rowsN_len {B : List Wd} (hB : Bo B) : ∀ k, k ≤ 3 → (rowsN B k).length ≤ 340 := by
  have g0 := gen_len hB 0
  have g1 := gen_len hB 1
  have g2 := gen_len hB 2
  have g3 := gen_len hB 3
  have e0 : (4 : Nat) ^ (0 + 1) = 4 := rfl
  have e1 : (4 : Nat) ^ (1 + 1) = 16 := rfl
  have e2 : (4 : Nat) ^ (2 + 1) = 64 := rfl
  have e3 : (4 : Nat) ^ (3 + 1) = 256 := rfl
  rw [e0] at g0; rw [e1] at g1; rw [e2] at g2; rw [e3] at g3
  intro k hk
  match k, hk with
  | 0, _ => show (gen B 0).length ≤ _; omega
  | 1, _ => show (gen B 0 ++ gen B 1).length ≤ _; rw [List.length_append]; omega
  | 2, _ => show (gen B 0 ++ gen B 1 ++ gen B 2).length ≤ _; rw [List.length_append, List.length_append]; omega
  | 3, _ => show (gen B 0 ++ gen B 1 ++ gen B 2 ++ gen B 3).length ≤ _; rw [List.length_append, List.length_append, List.length_append]; omega
  | n + 4, h => omega
theorem row_get {L : List Row} {i : Nat} {d : D} (h : (L.map rwD)[i]? = some d) : ∃ q, L[i]? = some q ∧ d = rwD q := by
  rw [List.getElem?_map] at h
  obtain ⟨e, h1, h2⟩ := Option.map_eq_some_iff.mp h
  exact ⟨e, h1, h2.symm⟩
theorem add_ss {a b : Rs} (ha : a ≠ []) (hl : a.length + b.length ≤ 1000) : addD (sD a) (sD b) = some (.fz (sD (a ++ b))) := by
  show (if a.map kD ≠ [] ∧ (a.map kD).length + (b.map kD).length ≤ 1000000 then some (RV.fz (.tuple (a.map kD ++ b.map kD))) else none) = _
  rw [if_pos ⟨fun z => ha (List.map_eq_nil_iff.mp z), by rw [List.length_map, List.length_map]; omega⟩, ← List.map_append]; rfl
theorem add_ws {a : List (List Nat)} (w : List Nat) (hl : a.length ≤ 1000) : addD (.list (a.map tD)) (.list [tD w]) = some (.ow ((a ++ [w]).map tD)) := by
  show (if (a.map tD).length + 1 ≤ 1000000 then some (RV.ow (a.map tD ++ [tD w])) else none) = _
  rw [if_pos (by rw [List.length_map]; omega), List.map_append]; rfl
theorem rows_ok {B : List Wd} (hB : Bo B) : F__law_rows [bkD B] = .ok (.ow ((rowsN B 3).map rwD)) := by
  refine go_val (ρ := [some (.fz (bkD B)), none, none, none, none, none, none, none, none]) rfl ?_
  unfold g__law_rows
  have l4 := hB.l4
  have cmp : noEr (compP (gT 2 (gsC (gN 0) (gsC (gN 1) gsN))) qTrue (pTup (aCons (pLst (aCons (pVar 0) aNil)) (aCons (pVar 1) aNil))) (B.map wD) [none, none] []) = .ok (B.map fun e => rwD ([e.1], e.2)) := by
    refine comp_mg (fun ρ => ∃ o p, ρ = [o, p]) B (by omega) ⟨none, none, rfl⟩ ?_
    rintro e _ ρ ⟨o, p, rfl⟩
    exact ⟨_, ct_t rfl rfl (ev_tup (ds := [.list [tD e.1], sD e.2]) (ev_cons (ev_lst (ds := [tD e.1]) (ev_cons (ev_var rfl) ev_nil) rfl (Nat.le_of_ble_eq_true rfl)) (ev_cons (ev_var rfl) ev_nil)) rfl (Nat.le_of_ble_eq_true rfl)) rfl rfl, _, _, rfl⟩
  have cmp : noEr (compP (gT 2 (gsC (gN 0) (gsC (gN 1) gsN))) qTrue (pTup (aCons (pLst (aCons (pVar 0) aNil)) (aCons (pVar 1) aNil))) (B.map wD) [none, none] []) = .ok ((gen B 0).map rwD) := by
    rw [cmp]; unfold gen; rw [List.map_map]; rfl
  refine gs_asg (pv := .ow ((gen B 0).map rwD)) (ρ3 := [some (.fz (bkD B)), some (.ow ((gen B 0).map rwD)), none, none, none, none, none, none, none]) (ev_comp (ev_iseq (d := bkD B) (ev_var rfl) rfl rfl) rfl cmp) rfl rfl ?_
  refine gs_asg (pv := .ow ((gen B 0).map rwD)) (ρ3 := [some (.fz (bkD B)), some (.ow ((gen B 0).map rwD)), some (.ow ((gen B 0).map rwD)), none, none, none, none, none, none]) (ev_cb (rv := .ow ((gen B 0).map rwD)) (ev_cons (ev_own rfl) ev_nil) rfl rfl) rfl rfl ?_
  have r3 : rng1 [.int 3] = some (nds (List.range 3)) := rng1_i (n := 3) (by decide) (by decide)
  refine gs_for (fun k ρ => ∃ s2 t3 t4 t5 t6 t7 t8, ρ = [some (.fz (bkD B)), some (.ow ((rowsN B k).map rwD)), s2, t3, t4, t5, t6, t7, t8] ∧ (s2 = some (.ow ((gen B k).map rwD)) ∨ s2 = some (.fz (.list ((gen B k).map rwD))))) (ds := nds (List.range 3)) (ρ1 := [some (.fz (bkD B)), some (.ow ((gen B 0).map rwD)), some (.ow ((gen B 0).map rwD)), none, none, none, none, none, none]) (ev_irng (ds := [.int 3]) (ev_cons ev_c ev_nil) rfl r3) ⟨_, none, none, none, none, none, none, rfl, .inl rfl⟩ ?_ ?_
  · rintro k d ρ hk ⟨s2, t3, t4, t5, t6, t7, t8, rfl, hs2⟩
    obtain ⟨k', hkk, rfl⟩ := nds_get hk
    obtain ⟨hk3, e⟩ := List.getElem?_eq_some_iff.mp hkk
    rw [List.getElem_range] at e
    subst e
    rw [List.length_range] at hk3
    refine ⟨_, rfl, ?_⟩
    refine gs_asg (pv := .ow []) (ρ3 := [some (.fz (bkD B)), some (.ow ((rowsN B k).map rwD)), s2, some (.fz (nd k)), some (.ow []), t5, t6, t7, t8]) (by walk_at "evp") rfl rfl ?_
    have it : iSeq (pVar 2) [some (.fz (bkD B)), some (.ow ((rowsN B k).map rwD)), s2, some (.fz (nd k)), some (.ow []), t5, t6, t7, t8] = .ok ((gen B k).map rwD, [some (.fz (bkD B)), some (.ow ((rowsN B k).map rwD)), some (.fz (.list ((gen B k).map rwD))), some (.fz (nd k)), some (.ow []), t5, t6, t7, t8]) := by
      rcases hs2 with rfl | rfl
      · exact ev_iseq (d := .list ((gen B k).map rwD)) (ev_own rfl) rfl rfl
      · exact ev_iseq (d := .list ((gen B k).map rwD)) (ev_var rfl) rfl rfl
    have gl : (gen B k).length ≤ 256 := by
      have h1 := gen_len hB k
      have h2 : 4 ^ (k + 1) ≤ 4 ^ 4 := Nat.pow_le_pow_right (by decide) (by omega)
      have h3 : (4 : Nat) ^ 4 = 256 := rfl
      omega
    have rl := rowsN_len hB k (by omega)
    have go1 := gen_ok hB k
    have es : gen B (k + 1) = stepR B (gen B k) := rfl
    have er : rowsN B (k + 1) = rowsN B k ++ stepR B (gen B k) := rfl
    rw [es, er]
    generalize gen B k = A at it gl go1
    generalize rowsN B k = F at it rl
    have sl : ∀ i, ((A.take i).flatMap fun q => B.filterMap (ext q)).length ≤ 1024 := fun i => by
      have h1 := flat_len (fun q => B.filterMap (ext q)) 4 (fun q => Nat.le_trans (fm_len _ _) l4) (A.take i)
      rw [List.length_take] at h1; omega
    refine gs_for (fun i ρ => ∃ t5 t6 t7 t8, ρ = [some (.fz (bkD B)), some (.ow (F.map rwD)), some (.fz (.list (A.map rwD))), some (.fz (nd k)), some (.ow (((A.take i).flatMap fun q => B.filterMap (ext q)).map rwD)), t5, t6, t7, t8]) (ds := A.map rwD) (ρ1 := [some (.fz (bkD B)), some (.ow (F.map rwD)), some (.fz (.list (A.map rwD))), some (.fz (nd k)), some (.ow []), t5, t6, t7, t8]) it ⟨t5, t6, t7, t8, rfl⟩ ?_ ?_
    · rintro i d ρ hd ⟨t5, t6, t7, t8, rfl⟩
      obtain ⟨q, hq, rfl⟩ := row_get hd
      obtain ⟨q1, q2, q3, q4⟩ := go1 q (List.mem_of_getElem? hq)
      refine ⟨_, rfl, ?_⟩
      have eT : (A.take (i + 1)).flatMap (fun q => B.filterMap (ext q)) = ((A.take i).flatMap fun q => B.filterMap (ext q)) ++ B.filterMap (ext q) := by
        rw [take_get hq, List.flatMap_append]; simp
      have lP := sl i
      generalize ((A.take i).flatMap fun q => B.filterMap (ext q)) = P at lP eT
      refine go_for (fun j ρ => ∃ t7 t8, ρ = [some (.fz (bkD B)), some (.ow (F.map rwD)), some (.fz (.list (A.map rwD))), some (.fz (nd k)), some (.ow ((P ++ (B.take j).filterMap (ext q)).map rwD)), some (.fz (.list (q.1.map tD))), some (.fz (sD q.2)), t7, t8]) (ds := B.map wD) (ρ1 := [some (.fz (bkD B)), some (.ow (F.map rwD)), some (.fz (.list (A.map rwD))), some (.fz (nd k)), some (.ow (P.map rwD)), some (.fz (.list (q.1.map tD))), some (.fz (sD q.2)), t7, t8]) (ev_iseq (d := bkD B) (ev_var rfl) rfl rfl) ⟨t7, t8, by rw [List.take_zero, List.filterMap_nil, List.append_nil]⟩ ?_ ?_
      · rintro j d ρ hd ⟨t7, t8, rfl⟩
        obtain ⟨f, hf, rfl⟩ := bk_get hd
        have mf := List.mem_of_getElem? hf
        refine ⟨_, rfl, ?_⟩
        have eJ : P ++ (B.take (j + 1)).filterMap (ext q) = P ++ (B.take j).filterMap (ext q) ++ (match ext q f with | some w => [w] | none => []) := by
          rw [take_get hf, List.filterMap_append, List.append_assoc]
          rw [fm_one]
          cases ext q f <;> rfl
        have lJ : (P ++ (B.take j).filterMap (ext q)).length ≤ 1028 := by
          have h1 := fm_len (ext q) (B.take j)
          have h5 : (B.take j).length ≤ 4 := by rw [List.length_take]; omega
          rw [List.length_append]; omega
        generalize P ++ (B.take j).filterMap (ext q) = M at eJ lJ
        have l1 := len_ss q.2
        have l2 := len_ss f.2
        have an := add_nn q.2.length f.2.length
        have lt : ltD (nd (q.2.length + f.2.length)) (.int 7) = some (.fz (.bool (decide (((q.2.length + f.2.length : Nat) : Int) < 7)))) := tr_ltt _ _
        refine go_if (b := decide (((q.2.length + f.2.length : Nat) : Int) < 7)) (ev_bool (ev_opb (ev_op (rv := .fz (nd (q.2.length + f.2.length))) (ev_cb (rv := .fz (nd q.2.length)) (ev_cons (ev_var rfl) ev_nil) rfl l1) (ev_cb (rv := .fz (nd f.2.length)) (ev_cons (ev_var rfl) ev_nil) rfl l2) rfl rfl an) ev_c rfl rfl lt) rfl) (fun hb => ?_) fun hb => ?_
        · have hb := of_decide_eq_true hb
          have eF : ext q f = some (q.1 ++ [f.1], q.2 ++ f.2) := by unfold ext; rw [if_pos (by omega)]
          rw [eF] at eJ
          have a1 := add_ws (a := q.1) f.1 (by omega)
          have a2 := add_ss (a := q.2) (b := f.2) q4 (by omega)
          refine go_drop (ev_app (d := rwD (q.1 ++ [f.1], q.2 ++ f.2)) (x := [some (.fz (bkD B)), some (.ow (F.map rwD)), some (.fz (.list (A.map rwD))), some (.fz (nd k)), some (.ow (M.map rwD ++ [rwD (q.1 ++ [f.1], q.2 ++ f.2)])), some (.fz (.list (q.1.map tD))), some (.fz (sD q.2)), some (.fz (tD f.1)), some (.fz (sD f.2))]) rfl (ev_tup (ds := [.list ((q.1 ++ [f.1]).map tD), sD (q.2 ++ f.2)]) (ev_cons (ev_op (rv := .ow ((q.1 ++ [f.1]).map tD)) (dx := .list (q.1.map tD)) (dy := .list [tD f.1]) (ev_var rfl) (ev_lst (ds := [tD f.1]) (ev_cons (ev_var rfl) ev_nil) rfl (Nat.le_of_ble_eq_true rfl)) rfl rfl a1) (ev_cons (ev_op (rv := .fz (sD (q.2 ++ f.2))) (ev_var rfl) (ev_var rfl) rfl rfl a2) ev_nil)) rfl (Nat.le_of_ble_eq_true rfl)) rfl rfl (by rw [List.length_map]; omega) rfl) ⟨_, _, by rw [eJ, List.map_append]; rfl⟩
        · have hb := of_decide_eq_false hb
          have eF : ext q f = none := by unfold ext; rw [if_neg (by omega)]
          rw [eF] at eJ
          exact go_next ⟨_, _, by rw [eJ, List.append_nil]; rfl⟩
      · rintro ρ ⟨t7, t8, rfl⟩
        refine ⟨some (.fz (.list (q.1.map tD))), some (.fz (sD q.2)), t7, t8, ?_⟩
        rw [eT, List.length_map, List.take_length]
    · rintro ρ ⟨t5, t6, t7, t8, rfl⟩
      rw [List.length_map, List.take_length]
      have lS := sl A.length
      rw [List.take_length] at lS
      have eS : (A.flatMap fun q => B.filterMap (ext q)) = stepR B A := rfl
      rw [eS] at lS ⊢
      refine gs_drop (L10.ev_extP (i := 1) (j := 4) (x := [some (.fz (bkD B)), some (.ow (F.map rwD ++ (stepR B A).map rwD)), some (.fz (.list (A.map rwD))), some (.fz (nd k)), some (.ow ((stepR B A).map rwD)), t5, t6, t7, t8]) rfl rfl (by rw [List.length_map, List.length_map]; omega) rfl) ?_
      refine gl_asg (pv := .pl 4) (ρ3 := [some (.fz (bkD B)), some (.ow (F.map rwD ++ (stepR B A).map rwD)), some (.fz (.list ((stepR B A).map rwD))), some (.fz (nd k)), some (.fz (.list ((stepR B A).map rwD))), t5, t6, t7, t8]) (ev_own rfl) rfl rfl ⟨_, _, _, _, _, _, _, by rw [List.map_append], .inr rfl⟩
  · rintro ρ ⟨s2, t3, t4, t5, t6, t7, t8, rfl, _⟩
    exact go_ret (ev_own rfl) rfl rfl
section
variable {ρ ρ1 : SEnv} {ω ω1 ω2 ω3 : Sto} {x y z : SV} {i : Nat} {d : D} {ds : List D}
theorem sv_cbO {f : List D → Option RV} {fa : FAS} {xs : List SV} {es : List D} (ha : fa ρ ω = .ok xs ω1) (hs : optAll (sh ω1) xs = some ds) (h : f ds = some (.ow es)) : cbS f fa ρ ω = .ok (.rf ω1.length) (ω1 ++ [.lst (es.map .fz)]) := by
  unfold cbS
  rw [ha, RS.bind_ok]
  unfold cbvS
  rw [hs]
  show ((RS.ofO ω1 (f ds)).bind fun rv ω1 => pushR ω1 rv) = _
  rw [h]; rfl
theorem frz_l (m : Nat) (h : ω[i]? = some (.lst (ds.map .fz))) : frz (m + 1) ω (.rf i) = some (.list ds, ω.set i .dead) := by
  unfold frz
  rw [h]
  dsimp only
  rw [frzL_fz]
theorem sv_dget2 {fd fk fx : FES} {k : Key} {kvs0 kvs : List (Key × SV)} (hd : fd ρ ω = .ok (.rf i) ω1) (h0 : ω1[i]? = some (.dct kvs0)) (hk : fk ρ ω1 = .ok x ω2) (hx : fx ρ ω2 = .ok z ω3) (h1 : keyV x = some k) (h2 : ω3[i]? = some (.dct kvs)) : dget2S fd fk fx ρ ω = .ok ((getK kvs k).getD z) ω3 := by
  unfold dget2S
  rw [hd, RS.bind_ok, dct_eq h0]
  show ((fk ρ ω1).bind _) = _
  rw [hk, RS.bind_ok, hx, RS.bind_ok, h1]
  show ((RS.ofO ω3 (dctAt ω3 (.rf i))).bind _) = _
  rw [dct_eq h2]; rfl
theorem sv_ddctL {fe : FES} {ps : List (Key × SV)} (he : fe ρ ω = .ok (.rf i) ω1) (hl : ω1[i]? = some (.lst (ds.map .fz))) (h : optAll pairD ds = some ps) : ddctLS fe ρ ω = .ok (.rf ω1.length) (ω1 ++ [.dct (mergKS [] ps)]) := by
  have e : pairsL ω1 (.rf i) = some ps := by
    unfold pairsL
    dsimp only
    rw [hl]
    dsimp only
    have : optAll fzD (ds.map SV.fz) = some ds := by
      clear hl h
      induction ds with
      | nil => rfl
      | cons a r ih => rw [List.map_cons]; unfold optAll; rw [show fzD (SV.fz a) = some a from rfl]; dsimp only; rw [ih]
    rw [this]
    exact h
  unfold ddctLS
  rw [he, RS.bind_ok, e]; rfl
end
theorem twofold_ok {B : List Wd} (hB : Bo B) (ω0 : Sto) : ∃ (x : SV) (ω' : Sto), F_twofold [.fz (bkD B)] ω0 = .ok x ω' ∧ ∃ W : Mp, Full B W [] ∧ Bd W [] ∧ ((getM W [] = none ∧ x = .fz .none) ∨ ∃ w i j, getM W [] = some w ∧ x = .tp [.rf i, .rf j] ∧ i ≠ j ∧ ω'[i]? = some (.lst ((w.lo.map tD).map .fz)) ∧ ω'[j]? = some (.lst ((w.sh.map tD).map .fz))) := by
  obtain ⟨W, ω1, hc, hw, hF, hD⟩ := cheapest_ok hB ω0
  obtain ⟨x, ω', e, h⟩ := os_run (n := 2) (g := g_twofold) (xs := [.fz (bkD B)]) (ω := ω0) (ρ := [some (.fz (bkD B)), none]) (T := fun x ω' => (getM W [] = none ∧ x = .fz .none) ∨ ∃ w i j, getM W [] = some w ∧ x = .tp [.rf i, .rf j] ∧ i ≠ j ∧ ω'[i]? = some (.lst ((w.lo.map tD).map .fz)) ∧ ω'[j]? = some (.lst ((w.sh.map tD).map .fz))) rfl (by
    unfold g_twofold
    refine oq_asg (x := .rf ω0.length) (ω1 := ω1) (ρ1 := [some (.fz (bkD B)), some (.rf ω0.length)]) (sv_calS (xs := [.fz (bkD B)]) (sv_cons (sv_lift (ev_var rfl)) sv_nil) rfl hc) rfl ?_
    have kn : liftP (pTup aNil) [some (.fz (bkD B)), some (.rf ω0.length)] ω1 = .ok (.fz (sD [])) ω1 := sv_lift (ev_tup (ds := []) ev_nil rfl (Nat.zero_le _))
    have di := sv_ddin (neg := true) (fd := varS 1) (ρ := [some (.fz (bkD B)), some (.rf ω0.length)]) kn (sv_var rfl) (key_sD []) hw
    rw [getDD_C, Option.isSome_map] at di
    cases g : getM W [] with
    | none =>
      rw [g] at di
      exact oq_ift (sv_bool di) (oq_ret (sv_lift ev_c) (.inl ⟨rfl, rfl⟩))
    | some w =>
      rw [g] at di
      refine oq_iff (sv_bool di) (oq_next ?_)
      have gd : getDD (ddC W) (sD []) = some (wyD w) := by rw [getDD_C, g]; rfl
      have ge := sv_ddget (fd := varS 1) (ρ := [some (.fz (bkD B)), some (.rf ω0.length)]) (sv_var rfl) kn (key_sD []) hw gd
      obtain ⟨_, _, x2, x3⟩ := ix4 w
      have hw2 : (ω1 ++ [Cell.lst ((w.lo.map tD).map .fz)])[ω0.length]? = some (.dd (ddC W)) := app_at hw
      have kn2 : liftP (pTup aNil) [some (.fz (bkD B)), some (.rf ω0.length)] (ω1 ++ [Cell.lst ((w.lo.map tD).map .fz)]) = .ok (.fz (sD [])) (ω1 ++ [Cell.lst ((w.lo.map tD).map .fz)]) := sv_lift (ev_tup (ds := []) ev_nil rfl (Nat.zero_le _))
      have ge2 := sv_ddget (fd := varS 1) (ρ := [some (.fz (bkD B)), some (.rf ω0.length)]) (sv_var rfl) kn2 (key_sD []) hw2 gd
      have c1 : cbS lstD (consS (ixS (ddgetS (varS 1) (liftP (pTup aNil))) (liftP (pC (.int 2)))) nilS) [some (.fz (bkD B)), some (.rf ω0.length)] ω1 = .ok (.rf ω1.length) (ω1 ++ [.lst ((w.lo.map tD).map .fz)]) := sv_cbO (xs := [.fz (.tuple (w.lo.map tD))]) (ds := [.tuple (w.lo.map tD)]) (sv_cons (sv_ixfz ge (sv_lift ev_c) x2) sv_nil) rfl rfl
      have c2 : cbS lstD (consS (ixS (ddgetS (varS 1) (liftP (pTup aNil))) (liftP (pC (.int 3)))) nilS) [some (.fz (bkD B)), some (.rf ω0.length)] (ω1 ++ [Cell.lst ((w.lo.map tD).map .fz)]) = .ok (.rf (ω1 ++ [Cell.lst ((w.lo.map tD).map .fz)]).length) (ω1 ++ [Cell.lst ((w.lo.map tD).map .fz)] ++ [.lst ((w.sh.map tD).map .fz)]) := sv_cbO (xs := [.fz (.tuple (w.sh.map tD))]) (ds := [.tuple (w.sh.map tD)]) (sv_cons (sv_ixfz ge2 (sv_lift ev_c) x3) sv_nil) rfl rfl
      have l1 : (ω1 ++ [Cell.lst ((w.lo.map tD).map SV.fz)]).length = ω1.length + 1 := by rw [List.length_append]; rfl
      refine os_ret (x := .tp [.rf ω1.length, .rf (ω1 ++ [Cell.lst ((w.lo.map tD).map .fz)]).length]) (sv_tp (xs := [.rf ω1.length, .rf (ω1 ++ [Cell.lst ((w.lo.map tD).map .fz)]).length]) (sv_cons c1 (sv_cons c2 sv_nil)) (Nat.le_of_ble_eq_true rfl) rfl rfl) (.inr ⟨w, _, _, rfl, rfl, by rw [l1]; omega, app_at snoc_last, snoc_last⟩))
  exact ⟨x, ω', e, W, hF, hD, h⟩
theorem put_some (kvs : List (D × D)) (k v k' : D) : (getDD (putDD kvs k v) k').isSome = ((getDD kvs k').isSome || (!(getDD kvs k).isSome && PyData.eqv k k')) := by
  have fm : ∀ (l : List (D × D)) (f : D × D → D × D), (∀ q, (f q).1 = q.1) → ((l.map f).find? fun kv => PyData.eqv kv.1 k').isSome = (l.find? fun kv => PyData.eqv kv.1 k').isSome := by
    intro l f hf
    induction l with
    | nil => rfl
    | cons q r ih =>
      rw [List.map_cons, List.find?_cons, List.find?_cons, hf q]
      cases PyData.eqv q.1 k' with
      | true => rfl
      | false => exact ih
  unfold putDD getDD
  rw [Option.isSome_map, Option.isSome_map, Option.isSome_map]
  cases g : (kvs.find? fun kv => PyData.eqv kv.1 k).isSome with
  | true =>
    rw [if_pos rfl, fm _ _ (fun q => by split <;> rfl)]
    simp
  | false =>
    rw [if_neg Bool.false_ne_true, List.find?_append, Option.isSome_or]
    have : (List.find? (fun kv => PyData.eqv kv.1 k') [(k, v)]).isSome = PyData.eqv k k' := by
      rw [List.find?_cons]
      cases PyData.eqv k k' <;> rfl
    rw [this]; simp
theorem put_ddlen (kvs : List (D × D)) (k v : D) : (putDD kvs k v).length ≤ kvs.length + 1 := by
  unfold putDD
  split
  · rw [List.length_map]; omega
  · rw [List.length_append]; exact Nat.le_refl _
noncomputable def leD : Option Nat → D
  | none => .none
  | some n => nd n
structure Sn (R : List Row) (n : Nat) (least : Option Nat) (kvs : List (D × D)) : Prop where
  len : kvs.length ≤ n
  has : ∀ r : Rs, (getDD kvs (sD r)).isSome = decide (r ∈ (R.take n).map (·.2))
  two : ∀ L, least = some L → ∃ (i j : Nat) (a b : Row), i < j ∧ R[i]? = some a ∧ R[j]? = some b ∧ a.2 = b.2 ∧ b.2.length = L
theorem Sn.put {R : List Row} {n : Nat} {least : Option Nat} {kvs : List (D × D)} (h : Sn R n least kvs) {q : Row} (hq : R[n]? = some q) (v : D) {l2 : Option Nat} (hl : l2 = least ∨ (q.2 ∈ (R.take n).map (·.2) ∧ l2 = some q.2.length)) : Sn R (n + 1) l2 (putDD kvs (sD q.2) v) := by
  refine ⟨by have := put_ddlen kvs (sD q.2) v; have := h.len; omega, fun r => ?_, fun L e => ?_⟩
  · rw [put_some, h.has, h.has, eqv_sD, take_get hq, List.map_append, show [q].map (fun x : Row => x.2) = [q.2] from rfl]
    by_cases e1 : r ∈ (R.take n).map (·.2)
    · rw [decide_eq_true e1, decide_eq_true (List.mem_append_left _ e1)]; rfl
    · rw [decide_eq_false e1, Bool.false_or]
      by_cases e2 : q.2 = r
      · subst e2
        rw [decide_eq_false e1, decide_eq_true rfl, decide_eq_true (List.mem_append_right _ (List.mem_singleton.mpr rfl))]; rfl
      · rw [decide_eq_false e2, Bool.and_false, decide_eq_false]
        intro z
        rcases List.mem_append.mp z with z | z
        · exact e1 z
        · exact e2 (List.mem_singleton.mp z).symm
  · rcases hl with rfl | ⟨m, rfl⟩
    · exact h.two L e
    · cases e
      obtain ⟨a, ha, e⟩ := List.mem_map.mp m
      obtain ⟨i, hi⟩ := List.mem_iff_getElem?.mp ha
      have hlt : i < n := by have := (List.getElem?_eq_some_iff.mp hi).1; rw [List.length_take] at this; omega
      rw [List.getElem?_take_of_lt hlt] at hi
      exact ⟨i, n, a, q, hlt, hi, hq, e, rfl⟩
theorem nr_ne {R : List Row} (h : NR R) {i j : Nat} {a b : Row} (hl : i < j) (ha : R[i]? = some a) (hb : R[j]? = some b) : a.1 ≠ b.1 := by
  obtain ⟨h1, rfl⟩ := List.getElem?_eq_some_iff.mp ha
  obtain ⟨h2, rfl⟩ := List.getElem?_eq_some_iff.mp hb
  exact List.pairwise_iff_getElem.mp h i j h1 h2 hl
noncomputable def lnK (B : List Wd) : List (Key × SV) := B.map fun e => (.inr (tx e.1), .fz (nd e.2.length))
theorem get_ln (B : List Wd) (hn : (B.map (·.1)).Nodup) (w : List Nat) : getK (mergKS [] (lnK B)) (.inr (tx w)) = (look B w).map fun s => SV.fz (nd s.length) := by
  have key : ∀ (B : List Wd) (acc : List (Key × SV)), (B.map (·.1)).Nodup → getK (mergKS acc (lnK B)) (.inr (tx w)) = match look B w with
      | some s => some (.fz (nd s.length))
      | none => getK acc (.inr (tx w)) := by
    intro B
    induction B with
    | nil => intro acc _; rfl
    | cons e r ih =>
      intro acc hn
      rw [List.map_cons, List.nodup_cons] at hn
      show getK (mergKS (putKS acc (.inr (tx e.1)) (.fz (nd e.2.length))) (lnK r)) (.inr (tx w)) = _
      rw [ih _ hn.2, look_cons]
      by_cases q : e.1 = w
      · subst q
        rw [if_pos rfl, look_none hn.1]
        dsimp only
        rw [getK_put, if_pos rfl]
      · rw [if_neg q]
        cases look r w with
        | some s => rfl
        | none =>
          dsimp only
          rw [getK_put, if_neg (fun z => q (tx_inj (Sum.inr.inj z)).symm)]
  rw [key B [] hn]
  cases look B w with
  | none => rfl
  | some s => rfl
theorem pairs_ln : ∀ B : List Wd, optAll pairD (B.map fun e => PyData.tuple [tD e.1, nd e.2.length]) = some (lnK B)
  | [] => rfl
  | e :: r => by
    rw [List.map_cons]
    unfold optAll
    rw [show pairD (PyData.tuple [tD e.1, nd e.2.length]) = some (.inr (tx e.1), .fz (nd e.2.length)) from rfl]
    dsimp only
    rw [pairs_ln r]; rfl
theorem sum_wr {B : List Wd} : ∀ {L : List (List Nat)}, Ins B L → (L.map fun w => (((look B w).getD []).length : Int)).sum = ((wr B L).length : Int)
  | [], _ => rfl
  | w :: L, h => by
    rw [List.map_cons, List.sum_cons, sum_wr fun z hz => h z (List.mem_cons_of_mem _ hz), wr_cons, List.length_append]
    omega
theorem isn_none : isnD .none .none = some (.fz (.bool true)) := rfl
theorem isn_nd (n : Nat) : isnD (nd n) .none = some (.fz (.bool false)) := rfl
theorem main (ns : List Int) (hns : ns.length ≤ 63) : L10.toP F_law [.list (ns.map .int)] = .ok (.fz (.bool true)) := by
  obtain ⟨B, hB, eb⟩ := book_ok ns hns
  have er := rows_ok hB
  obtain ⟨rn, rk⟩ := rows_ok1 hB 3
  have rl := rowsN_len hB 3 (Nat.le_refl _)
  generalize hR : rowsN B 3 = R at er rn rk rl
  have key : ∃ x ω', F_law [.fz (.list (ns.map .int))] [] = .ok x ω' ∧ x = .fz (.bool true) := by
    refine os_run (T := fun x _ => x = .fz (.bool true)) (ρ := [some (.fz (.list (ns.map .int))), none, none, none, none, none, none, none, none]) rfl ?_
    unfold g_law
    generalize hS : PyData.list (ns.map .int) = S at eb
    refine oq_asg (x := .fz (bkD B)) (ω1 := []) (ρ1 := [some (.fz S), some (.fz (bkD B)), none, none, none, none, none, none, none]) (sv_lift (ev_cal (rv := .fz (bkD B)) (ev_cons (ev_var rfl) ev_nil) rfl rfl eb)) rfl ?_
    refine oq_asg (x := .rf 0) (ω1 := [.dd []]) (ρ1 := [some (.fz S), some (.fz (bkD B)), some (.rf 0), none, none, none, none, none, none]) rfl rfl ?_
    refine oq_asg (x := .fz .none) (ω1 := [.dd []]) (ρ1 := [some (.fz S), some (.fz (bkD B)), some (.rf 0), some (.fz .none), none, none, none, none, none]) (sv_lift ev_c) rfl ?_
    refine os_seq (os_for (fun n ρ ω => ∃ (least : Option Nat) (t4 t5 : Option SV) (kvs : List (D × D)), ρ = [some (.fz S), some (.fz (bkD B)), some (.rf 0), some (.fz (leD least)), t4, t5, none, none, none] ∧ ω = [.dd kvs] ∧ Sn R n least kvs) (ds := R.map rwD) (ω1 := [.dd []]) (sv_liftI (ev_iseq (d := .list (R.map rwD)) (ev_cal (rv := .ow (R.map rwD)) (ev_cons (ev_var rfl) ev_nil) rfl rfl er) rfl rfl)) ⟨none, none, none, [], rfl, rfl, Nat.le_refl _, fun r => rfl, fun L e => by cases e⟩ ?_ ?_)
    · rintro n d ρ ω hd ⟨least, t4, t5, kvs, rfl, rfl, hs⟩
      obtain ⟨q, hq, rfl⟩ := row_get hd
      have hlt := (List.getElem?_eq_some_iff.mp hq).1
      refine ⟨[some (.fz S), some (.fz (bkD B)), some (.rf 0), some (.fz (leD least)), some (.fz (.list (q.1.map tD))), some (.fz (sD q.2)), none, none, none], [.dd kvs], rfl, ?_⟩
      have di := sv_ddin (neg := false) (fk := liftP (pVar 5)) (fd := varS 2) (ρ := [some (.fz S), some (.fz (bkD B)), some (.rf 0), some (.fz (leD least)), some (.fz (.list (q.1.map tD))), some (.fz (sD q.2)), none, none, none]) (ω := [.dd kvs]) (kvs := kvs) (sv_lift (ev_var rfl)) (sv_var rfl) (key_sD q.2) rfl
      rw [hs.has, Bool.bne_false] at di
      have put : ∀ (l2 : Option Nat) (hl : l2 = least ∨ (q.2 ∈ (R.take n).map (·.2) ∧ l2 = some q.2.length)), GoS (ddputS (varS 2) (liftP (pVar 5)) (liftP (pVar 4)) [some (.fz S), some (.fz (bkD B)), some (.rf 0), some (.fz (leD l2)), some (.fz (.list (q.1.map tD))), some (.fz (sD q.2)), none, none, none] [.dd kvs]) (fun ρ ω => ∃ (least : Option Nat) (t4 t5 : Option SV) (kvs : List (D × D)), ρ = [some (.fz S), some (.fz (bkD B)), some (.rf 0), some (.fz (leD least)), t4, t5, none, none, none] ∧ ω = [.dd kvs] ∧ Sn R (n + 1) least kvs) (fun ρ ω => ∃ (least : Option Nat) (t4 t5 : Option SV) (kvs : List (D × D)), ρ = [some (.fz S), some (.fz (bkD B)), some (.rf 0), some (.fz (leD least)), t4, t5, none, none, none] ∧ ω = [.dd kvs] ∧ Sn R (n + 1) least kvs) (fun x _ => x = .fz (.bool true)) := fun l2 hl =>
        os_nx (sv_ddput (d := .list (q.1.map tD)) (k := sD q.2) (kvs := kvs) (i := 0) (sv_lift (ev_var rfl)) (sv_var rfl) (sv_lift (ev_var rfl)) (key_sD q.2) rfl (by have := hs.len; omega)) ⟨l2, _, _, _, rfl, rfl, hs.put hq _ hl⟩
      by_cases hin : q.2 ∈ (R.take n).map (·.2)
      · rw [decide_eq_true hin] at di
        have ln := len_ss q.2
        cases least with
        | none =>
          refine oq_ift (sv_andT_t (sv_bool di) (sv_liftT (b := true) (ev_qor (a := true) (b := true) (ev_bool (ev_opb (ev_var rfl) ev_c rfl rfl isn_none) rfl) (fun h => by cases h)))) ?_
          refine oq_asg (x := .fz (nd q.2.length)) (ω1 := [.dd kvs]) (sv_lift (ev_cb (rv := .fz (nd q.2.length)) (ev_cons (ev_var rfl) ev_nil) rfl ln)) rfl (put (some q.2.length) (.inr ⟨hin, rfl⟩))
        | some L =>
          have lt : ltD (nd q.2.length) (nd L) = some (.fz (.bool (decide ((q.2.length : Int) < L)))) := tr_ltt _ _
          have tv : liftT (qOr (pBool (pOp isnD (pVar 3) (pC .none))) (pBool (pOp ltD (pCB lenD (aCons (pVar 5) aNil)) (pVar 3)))) [some (.fz S), some (.fz (bkD B)), some (.rf 0), some (.fz (leD (some L))), some (.fz (.list (q.1.map tD))), some (.fz (sD q.2)), none, none, none] [.dd kvs] = .ok (false || decide ((q.2.length : Int) < L)) [.dd kvs] := sv_liftT (ev_qor (a := false) (ev_bool (ev_opb (dx := nd L) (ev_var rfl) ev_c rfl rfl (isn_nd L)) rfl) fun _ => ev_bool (ev_opb (dx := nd q.2.length) (dy := nd L) (ev_cb (rv := .fz (nd q.2.length)) (ev_cons (ev_var rfl) ev_nil) rfl ln) (ev_var rfl) rfl rfl lt) rfl)
          refine oq_if (sv_andT_t (sv_bool di) tv) (fun _ => ?_) fun _ => oq_next (put (some L) (.inl rfl))
          refine oq_asg (x := .fz (nd q.2.length)) (ω1 := [.dd kvs]) (sv_lift (ev_cb (rv := .fz (nd q.2.length)) (ev_cons (ev_var rfl) ev_nil) rfl ln)) rfl (put (some q.2.length) (.inr ⟨hin, rfl⟩))
      · rw [decide_eq_false hin] at di
        exact oq_iff (sv_andT_f (sv_bool di)) (oq_next (put least (.inl rfl)))
    · rintro ρ ω ⟨least, t4, t5, kvs, rfl, rfl, hs⟩
      obtain ⟨x, ω', e2, W, hF, hD, hx⟩ := twofold_ok hB [.dd kvs]
      have two : ∀ L, least = some L → Gt W [] L := fun L eL => by
        obtain ⟨i, j, a, b, hij, ha, hb, e, rfl⟩ := hs.two L eL
        obtain ⟨_, ia, wa⟩ := rk a (List.mem_of_getElem? ha)
        obtain ⟨_, ib, wb⟩ := rk b (List.mem_of_getElem? hb)
        have := end_ok hB hF ia ib (nr_ne rn hij ha hb) (by rw [← wa, ← wb, e])
        rw [← wa, e] at this
        exact this
      rcases hx with ⟨g, rfl⟩ | ⟨w, i, j, g, rfl, hij, hi, hj⟩
      · have eN : least = none := by
          cases least with
          | none => rfl
          | some L =>
            obtain ⟨q, hq, e, _⟩ := two L rfl
            have := getM_in W []
            rw [g, decide_eq_true (List.mem_map.mpr ⟨q, hq, e⟩)] at this
            cases this
        subst eN
        refine oq_asg (x := .fz .none) (ρ1 := [some (.fz S), some (.fz (bkD B)), some (.rf 0), some (.fz .none), t4, t5, some (.fz .none), none, none]) (sv_frz (sv_calS (xs := [.fz (bkD B)]) (sv_cons (sv_lift (ev_var rfl)) sv_nil) rfl e2) rfl) rfl ?_
        exact oq_ift (sv_liftT (ev_bool (ev_opb (ev_var rfl) ev_c rfl rfl isn_none) rfl)) (oq_ret (sv_lift (ev_opb (ev_var rfl) ev_c rfl rfl isn_none)) rfl)
      · have fz2 : frz 4 ω' (.tp [.rf i, .rf j]) = some (.tuple [.list (w.lo.map tD), .list (w.sh.map tD)], (ω'.set i .dead).set j .dead) := by
          have f1 := frz_l 2 hi
          have f2 := frz_l 2 (ω := ω'.set i .dead) ((set_ne hij).trans hj)
          unfold frz
          show (match frzL (frz 3) ω' [.rf i, .rf j] with | some (ds, ω1) => some (PyData.tuple ds, ω1) | none => none) = _
          unfold frzL
          rw [f1]
          dsimp only
          unfold frzL
          rw [f2]
          rfl
        refine oq_asg (x := .fz (.tuple [.list (w.lo.map tD), .list (w.sh.map tD)])) (ρ1 := [some (.fz S), some (.fz (bkD B)), some (.rf 0), some (.fz (leD least)), t4, t5, some (.fz (.tuple [.list (w.lo.map tD), .list (w.sh.map tD)])), none, none]) (sv_frz (sv_calS (xs := [.fz (bkD B)]) (sv_cons (sv_lift (ev_var rfl)) sv_nil) rfl e2) fz2) rfl ?_
        generalize (ω'.set i .dead).set j .dead = ω2
        have isf : isnD (.tuple [.list (w.lo.map tD), .list (w.sh.map tD)]) .none = some (.fz (.bool false)) := rfl
        refine oq_iff (sv_liftT (ev_bool (ev_opb (ev_var rfl) ev_c rfl rfl isf) rfl)) (oq_next ?_)
        have hk := hF.iv.wk _ (getM_mem g)
        have hp : w.p = (wr B w.lo).length := hk.p
        have hi2 : Ins B w.lo := hk.i
        have hb2 : w.p ≤ 3 + 3 * W.length := hD.w _ (getM_mem g)
        have l16 := len16 hB hF.iv
        have ll : w.lo.length ≤ w.p := (ok1_len hB hk).1
        have l4 := hB.l4
        have cmp : noEr (compP (gT 2 (gsC (gN 0) (gsC (gN 1) gsN))) qTrue (pTup (aCons (pVar 0) (aCons (pCB lenD (aCons (pVar 1) aNil)) aNil))) (B.map wD) [none, none] []) = .ok (B.map fun e => PyData.tuple [tD e.1, nd e.2.length]) := by
          refine comp_mg (fun ρ => ∃ o p, ρ = [o, p]) B (by omega) ⟨none, none, rfl⟩ ?_
          rintro e _ ρ ⟨o, p, rfl⟩
          exact ⟨_, ct_t rfl rfl (ev_tup (ds := [tD e.1, nd e.2.length]) (ev_cons (ev_var rfl) (ev_cons (ev_cb (rv := .fz (nd e.2.length)) (ev_cons (ev_var rfl) ev_nil) rfl (len_ss e.2)) ev_nil)) rfl (Nat.le_of_ble_eq_true rfl)) rfl rfl, _, _, rfl⟩
        have lc : liftP (pComp 2 [] (iSeq (pVar 1)) (gT 2 (gsC (gN 0) (gsC (gN 1) gsN))) qTrue (pTup (aCons (pVar 0) (aCons (pCB lenD (aCons (pVar 1) aNil)) aNil)))) [some (.fz S), some (.fz (bkD B)), some (.rf 0), some (.fz (leD least)), t4, t5, some (.fz (.tuple [.list (w.lo.map tD), .list (w.sh.map tD)])), none, none] ω2 = .ok (.rf ω2.length) (ω2 ++ [.lst ((B.map fun e => PyData.tuple [tD e.1, nd e.2.length]).map .fz)]) := sv_liftO (ev_comp (ev_iseq (d := bkD B) (ev_var rfl) rfl rfl) rfl cmp)
        have ld := sv_ddctL lc snoc_last (pairs_ln B)
        have l3 : (ω2 ++ [Cell.lst ((B.map fun e => PyData.tuple [tD e.1, nd e.2.length]).map .fz)]).length = ω2.length + 1 := by rw [List.length_append]; rfl
        refine oq_asg (x := .rf (ω2.length + 1)) (ρ1 := [some (.fz S), some (.fz (bkD B)), some (.rf 0), some (.fz (leD least)), t4, t5, some (.fz (.tuple [.list (w.lo.map tD), .list (w.sh.map tD)])), some (.rf (ω2.length + 1)), none]) (by rw [ld, l3]) rfl ?_
        have hc7 : (ω2 ++ [Cell.lst ((B.map fun e => PyData.tuple [tD e.1, nd e.2.length]).map .fz)] ++ [Cell.dct (mergKS [] (lnK B))])[ω2.length + 1]? = some (.dct (mergKS [] (lnK B))) := by rw [← l3]; exact snoc_last
        generalize ω2 ++ [Cell.lst ((B.map fun e => PyData.tuple [tD e.1, nd e.2.length]).map .fz)] ++ [Cell.dct (mergKS [] (lnK B))] = ω3 at hc7
        have ix0 : ixD (.tuple [.list (w.lo.map tD), .list (w.sh.map tD)]) (.int 0) = some (.fz (.list (w.lo.map tD))) := rfl
        have it : liftI (iSeq (pOp ixD (pVar 6) (pC (.int 0)))) [some (.fz S), some (.fz (bkD B)), some (.rf 0), some (.fz (leD least)), t4, t5, some (.fz (.tuple [.list (w.lo.map tD), .list (w.sh.map tD)])), some (.rf (ω2.length + 1)), none] ω3 = .ok (w.lo.map tD) ω3 := sv_liftI (ev_iseq (d := .list (w.lo.map tD)) (ev_op (rv := .fz (.list (w.lo.map tD))) (ev_var rfl) ev_c rfl rfl ix0) rfl rfl)
        have cp := compv_filt (gt := gnS 0) (ft := trueT) (fe := dget2S (varS 1) (liftP (pVar 0)) (liftP (pC (.int 0)))) (ω := ω3) tD (fun z => SV.fz (.int (((look B z).getD []).length : Int))) (fun _ => true) (fun ρ => ∃ t0, ρ = [t0, some (.rf (ω2.length + 1))]) w.lo [none, some (.rf (ω2.length + 1))] [] ⟨none, rfl⟩ (by show 0 + _ ≤ _; omega) (by
          rintro z hz ρ ⟨t0, rfl⟩
          refine ⟨[some (.fz (tD z)), some (.rf (ω2.length + 1))], rfl, rfl, ?_, _, rfl⟩
          have := sv_dget2 (fd := varS 1) (fk := liftP (pVar 0)) (fx := liftP (pC (.int 0))) (ρ := [some (.fz (tD z)), some (.rf (ω2.length + 1))]) (ω := ω3) (k := .inr (tx z)) (sv_var rfl) hc7 (sv_lift (ev_var rfl)) (sv_lift ev_c) rfl hc7
          rw [get_ln B hB.nd] at this
          obtain ⟨s, hs⟩ := look_in (hi2 z hz)
          rw [hs] at this ⊢
          exact this)
        rw [List.nil_append, List.filter_eq_self.mpr (fun _ _ => rfl)] at cp
        have cl := sv_comp (n := 1) (fj := [7]) (ρ := [some (.fz S), some (.fz (bkD B)), some (.rf 0), some (.fz (leD least)), t4, t5, some (.fz (.tuple [.list (w.lo.map tD), .list (w.sh.map tD)])), some (.rf (ω2.length + 1)), none]) it cp
        have em : (w.lo.map fun z => SV.fz (.int (((look B z).getD []).length : Int))) = ((w.lo.map fun z => (((look B z).getD []).length : Int)).map PyData.int).map SV.fz := by rw [List.map_map, List.map_map]; rfl
        rw [em] at cl
        have sm : sumLD [.list ((w.lo.map fun z => (((look B z).getD []).length : Int)).map PyData.int)] = some (.fz (nd w.p)) := by
          unfold sumLD
          dsimp only
          rw [asIs_map]
          dsimp only
          rw [if_pos, sum_wr hi2, hp]
          refine ⟨List.all_eq_true.mpr fun n hn => ?_, by rw [List.length_map]; omega⟩
          obtain ⟨z, hz, rfl⟩ := List.mem_map.mp hn
          obtain ⟨s, hs⟩ := look_in (hi2 z hz)
          have h3 : s.length ≤ 3 := hB.s3 _ (look_mem hs)
          rw [hs, Bool.and_eq_true]
          exact ⟨decide_eq_true (by show 0 ≤ (s.length : Int); omega), decide_eq_true (by show (s.length : Int) ≤ _; omega)⟩
        refine oq_asg (x := .fz (nd w.p)) (ρ1 := [some (.fz S), some (.fz (bkD B)), some (.rf 0), some (.fz (leD least)), t4, t5, some (.fz (.tuple [.list (w.lo.map tD), .list (w.sh.map tD)])), some (.rf (ω2.length + 1)), some (.fz (nd w.p))]) (sv_cb (sv_cons cl sv_nil) (by unfold optAll; rw [sh_lst snoc_last]; rfl) sm) rfl ?_
        cases least with
        | none => exact os_ret (sv_lift (ev_por (a := true) (b := true) (ev_bool (ev_opb (dx := .none) (ev_var rfl) ev_c rfl rfl isn_none) rfl) (fun h => by cases h))) rfl
        | some L =>
          have ge : geD (nd L) (nd w.p) = some (.fz (.bool true)) := by
            obtain ⟨q, hq, e, l⟩ := two L rfl
            have := key_eq hF.iv.wn hq (getM_mem g) e
            subst this
            show some (RV.fz (.bool (decide ((w.p : Int) ≤ (L : Int))))) = _
            rw [decide_eq_true (by have l : w.p ≤ L := l; omega)]
          exact os_ret (sv_lift (ev_por (a := false) (b := true) (ev_bool (ev_opb (dx := nd L) (ev_var rfl) ev_c rfl rfl (isn_nd L)) rfl) fun _ => ev_opb (dx := nd L) (dy := nd w.p) (ev_var rfl) (ev_var rfl) rfl rfl ge)) rfl
  obtain ⟨x, ω', h1, rfl⟩ := key
  unfold L10.toP
  rw [show ([PyData.list (ns.map .int)].map SV.fz) = [.fz (.list (ns.map .int))] from rfl, h1]
end K65
local macro_rules | `(tactic| walk_at "sc") => `(tactic| exact ⟨rfl,rfl,rfl,by decide+kernel,rfl,by decide+kernel,by decide+kernel⟩)
local macro_rules | `(tactic| walk_at "me") => `(tactic| first
  |exact .head _
  |(apply List.Mem.tail;walk_at "me"))
local macro_rules | `(tactic| walk_at "cm") => `(tactic| first
  |with_reducible exact L3.opp_eq
  |with_reducible exact L3.opp_ne
  |with_reducible exact L3.opp_lt
  |with_reducible exact L3.opp_ge
  |with_reducible exact L3.opp_isn)
local macro_rules | `(tactic| walk_at "sp") => `(tactic| first
  |walk_at "cm"
  |with_reducible exact L3.opp_ix
  |with_reducible exact L3.opp_add
  |with_reducible exact L3.opp_sub
  |with_reducible exact L3.opp_ixS
  |with_reducible exact L3.opp_mulE
  |with_reducible exact L3.opp_mod
  |with_reducible exact L3.opp_div
  |with_reducible exact L3.opp_pow
  |with_reducible exact L3.opp_addS
  |with_reducible exact L3.cb_len
  |with_reducible exact L3.cb_tuple
  |with_reducible exact L3.cb_list
  |with_reducible exact L3.cb_max2
  |with_reducible exact L3.slp_any
  |with_reducible exact L3.slp_B
  |with_reducible exact L9.opp_mulS
  |with_reducible exact L3.opp_ixS)
local macro_rules | `(tactic| walk_at "eo") => `(tactic| first
  |with_reducible exact L3.eo_var
  |with_reducible exact L3.eo_int
  |(with_reducible apply L3.eo_op);(·walk_at "sp");(·walk_at "eo");(·walk_at "eo")
  |with_reducible exact L3.eo_str
  |(with_reducible apply L3.eo_cal);(·walk_at "ao")
  |(with_reducible apply L3.eo_cb);(·walk_at "sp");(·walk_at "ao")
  |(with_reducible apply L3.eo_tup);(·walk_at "ao")
  |(with_reducible apply L3.eo_lst);(·walk_at "ao")
  |(with_reducible apply L3.eo_app);(·walk_at "eo")
  |with_reducible exact L3.eo_non
  |(with_reducible apply L3.eo_sl);(·walk_at "sp");(·walk_at "eo");(·walk_at "oo");(·walk_at "oo")
  |(with_reducible apply L3.eo_or);(·walk_at "eo");(·walk_at "eo")
  |(with_reducible exact L10.eo_extP)
  |(with_reducible apply L3.eo_c);(·assumption))
local macro_rules | `(tactic| walk_at "ao") => `(tactic| first
  |(with_reducible apply L3.ao_cons);(·walk_at "eo");(·walk_at "ao")
  |with_reducible exact L3.ao_nil)
local macro_rules | `(tactic| walk_at "tt") => `(tactic| first
  |(with_reducible apply L3.tto_test);(with_reducible apply L3.eo_op);(·walk_at "cm");(·walk_at "eo");(·walk_at "eo")
  |(with_reducible apply L3.tto_and);(·walk_at "tt");(·walk_at "tt")
  |(with_reducible apply L3.tto_or);(·walk_at "tt");(·walk_at "tt")
  |(with_reducible apply L3.tto_b);(·walk_at "eo")
  |with_reducible exact L3.tto_true)
local macro_rules | `(tactic| walk_at "gg") => `(tactic| first
  |with_reducible exact L3.go_name
  |(with_reducible apply L3.gs_cons);(·walk_at "gg");(·walk_at "gg")
  |with_reducible exact L3.gs_nil
  |(with_reducible apply L3.go_tup);(·walk_at "gg")
  |with_reducible exact L10.gos_name
  |(with_reducible apply L10.gss_cons);(·walk_at "gg");(·walk_at "gg")
  |with_reducible exact L10.gss_nil
  |(with_reducible apply L10.gos_tup);(·walk_at "gg"))
local macro_rules | `(tactic| walk_at "io") => `(tactic| first
  |(with_reducible apply L3.io_rng1);(·walk_at "ao")
  |(with_reducible apply L3.io_seq);(·walk_at "eo")
  |(with_reducible apply L10.iot_lift);(·walk_at "io")
  |(with_reducible apply L10.iot_seq);(·walk_at "es"))
local macro_rules | `(tactic| walk_at "oo") => `(tactic| first
  |(with_reducible apply L3.too_some);(·walk_at "eo")
  |with_reducible exact L3.too_none)
local macro_rules | `(tactic| walk_at "es") => `(tactic| first
  |(with_reducible apply L10.eos_lift);(·walk_at "eo")
  |with_reducible exact L10.eos_var
  |(with_reducible apply L10.eos_calS0);(·walk_at "as")
  |(with_reducible apply L10.eos_tup);(·walk_at "as")
  |(with_reducible apply L10.eos_ix);(·walk_at "es");(·walk_at "es")
  |(with_reducible apply L10.eos_cb);(·walk_at "sp");(·walk_at "as")
  |(with_reducible apply L10.eos_frz);(·walk_at "es"))
local macro_rules | `(tactic| walk_at "as") => `(tactic| first
  |(with_reducible apply L10.aos_cons);(·walk_at "es");(·walk_at "as")
  |with_reducible exact L10.aos_nil)
local macro_rules | `(tactic| walk_at "ts") => `(tactic| first
  |(with_reducible apply L10.tts_lift);(·walk_at "tt")
  |(with_reducible apply L10.tts_and);(·walk_at "ts");(·walk_at "ts")
  |(with_reducible apply L10.tts_b);(·walk_at "es"))
local macro_rules | `(tactic| walk_at "so") => `(tactic| first
  |(with_reducible apply L3.so_seq);(·walk_at "so");(·walk_at "so")
  |(with_reducible apply L3.so_asg);(·walk_at "eo");(·walk_at "gg")
  |(with_reducible apply L3.so_if);(·walk_at "tt");(·walk_at "so");(·walk_at "so")
  |(with_reducible apply L3.so_ret);(·walk_at "eo")
  |(with_reducible apply L3.so_drop);(·walk_at "eo")
  |with_reducible exact L3.so_next
  |(with_reducible apply L3.so_for);(·walk_at "io");(·walk_at "gg");(·walk_at "so")
  |(with_reducible apply L10.sos_seq);(·walk_at "so");(·walk_at "so")
  |(with_reducible apply L10.sos_asg);(·walk_at "es");(·walk_at "gg")
  |(with_reducible apply L10.sos_if);(·walk_at "ts");(·walk_at "so");(·walk_at "so")
  |(with_reducible apply L10.sos_drop);(·walk_at "es")
  |(with_reducible apply L10.sos_ret);(·walk_at "es")
  |with_reducible exact L10.sos_next
  |(with_reducible apply L10.sos_for);(·walk_at "io");(·walk_at "gg");(·walk_at "so")
  |(with_reducible apply L10.sos_while);(·walk_at "ts");(·walk_at "so"))
local macro_rules | `(tactic| walk_at "to") => `(tactic| first
  |exact L2.ix_seq
  |exact L2.op_eqD (by assumption)
  |exact L2.op_neD (by assumption)
  |exact L3.op_addA
  |exact L9.op_mulS
  |exact L3.sl_anyB
  |exact L2.mt_extend
  |exact L2.op_sub
  |exact L2.op_lt
  |exact L3.op_mulB
  |exact L2.op_mod
  |exact L2.op_fdivL
  |exact L2.op_isN
  |exact L2.op_ge
  |exact L2.op_pow
  |exact L2.op_add_str
  |exact L2.call_len
  |exact L2.call_tuple_of
  |exact L2.call_list_of
  |exact L2.mt_append
  |exact L3.sl_any
  |exact L2.pass0
  |exact PySem.PassesOwn.never
  |exact L2.b_len
  |exact L2.b_tuple
  |exact L2.b_list
  |exact L2.b_max
  |exact L2.b_min
  |exact L10.b_dict
  |with_reducible exact PySem.F.plainAttrs_list
  |with_reducible exact PySem.F.slot_list_append
  |with_reducible exact PySem.F.type_list_append
  |with_reducible exact PySem.F.slot_list_insert
  |with_reducible exact PySem.F.type_list_insert
  |with_reducible exact PySem.F.slot_list_extend
  |with_reducible exact PySem.F.type_list_extend
  |with_reducible exact PySem.F.plainAttrs_dict
  |with_reducible exact PySem.F.slot_dict_values
  |with_reducible exact PySem.F.type_dict_values
  |exact L2.call_max2 rfl
  |exact L2.call_min2 rfl
  |rfl)
local macro_rules | `(tactic| walk_at "pe") => `(tactic| first
  |(with_reducible apply L2.pv);(·rfl);(·(first|exact Or.inl rfl|exact Or.inr (Or.inl rfl)|exact Or.inr (Or.inr rfl)));(·decide);(·decide)
  |with_reducible exact L2.pe_int
  |(with_reducible apply L2.pe_ix);(·walk_at "to");(·walk_at "pe");(·walk_at "pe");(·exact fun _ _=>rfl)
  |with_reducible exact L2.pe_str
  |(with_reducible apply L2.pe_op);(·walk_at "to");(·walk_at "pe");(·walk_at "pe")
  |(with_reducible apply L2.pe_cal);(·assumption);(·assumption);(·walk_at "pa");(·decide);(·rfl);(·decide);(·rfl);(·rfl)
  |(with_reducible apply L2.pe_tup);(·walk_at "pa")
  |with_reducible exact L2.pe_non
  |(with_reducible apply L2.pe_lst);(·walk_at "pa")
  |(with_reducible apply L2.pe_callB);(·walk_at "to");(·rfl);(·assumption);(·walk_at "to");(·walk_at "pa");(·decide);(·decide);(·rfl);(·rfl)
  |(with_reducible apply L2.pe_callTy);(·walk_at "to");(·rfl);(·assumption);(·walk_at "to");(·walk_at "pa");(·decide);(·decide);(·rfl);(·rfl)
  |(with_reducible apply L2.pe_cmpR);(·walk_at "to");(·walk_at "pe");(·walk_at "pe");(·(first|rfl|with_unfolding_all rfl))
  |(apply L2.pe_bm);(·walk_at "to");(·walk_at "to");(·walk_at "to");(·walk_at "to");(·walk_at "pe");(·walk_at "pa");(·rfl);(·rfl);(·decide);(·rfl);(·rfl)
  |(with_reducible apply L2.pe_one);(·walk_at "pe")
  |(with_reducible apply L2.pe_or);(·walk_at "pe");(·walk_at "pe")
  |(apply L2.pe_slice);(·walk_at "to");(·walk_at "pe");(·walk_at "po");(·walk_at "po"))
local macro_rules | `(tactic| walk_at "pa") => `(tactic| first
  |(with_reducible apply L2.pa_cons);(·walk_at "pe");(·walk_at "pa");(·rfl)
  |with_reducible exact L2.pa_nil)
local macro_rules | `(tactic| walk_at "pt") => `(tactic| first
  |(with_reducible apply L2.pt_cmpR);(·walk_at "to");(·walk_at "pe");(·walk_at "pe");(·(first|rfl|with_unfolding_all rfl))
  |(with_reducible apply L2.pt_cmp);(·walk_at "pc");(·(first|rfl|with_unfolding_all rfl))
  |(with_reducible apply L2.PW.pt);(·walk_at "pw")
  |(with_reducible apply L2.pt_val);(·walk_at "pe");(·(intro _;rfl)))
local macro_rules | `(tactic| walk_at "pw") => `(tactic| first
  |(with_reducible apply L2.pw_and1);(·walk_at "pt")
  |(with_reducible apply L2.pw_and);(·walk_at "pt");(·walk_at "pw")
  |(with_reducible apply L2.pw_or1);(·walk_at "pt")
  |(with_reducible apply L2.pw_or);(·walk_at "pt");(·walk_at "pw"))
local macro_rules | `(tactic| walk_at "pc") => `(tactic| fail)
local macro_rules | `(tactic| walk_at "pg") => `(tactic| first
  |(with_reducible apply L2.pg_name);(·(first|assumption|decide+kernel));(·rfl);(·(first|exact Or.inl rfl|exact Or.inr rfl|assumption|rfl));(·(first|exact Or.inl rfl|exact Or.inr rfl|assumption|rfl))
  |(with_reducible apply L2.pgs_cons);(·walk_at "pg");(·walk_at "pg");(·rfl)
  |with_reducible exact L2.pgs_nil
  |(apply L2.pg_tup);(·rfl);(·walk_at "pg");(·rfl);(·rfl))
local macro_rules | `(tactic| walk_at "pi") => `(tactic| first
  |(with_reducible apply L2.pi_range1);(·rfl);(·assumption);(·walk_at "pa");(·rfl)
  |(apply L3.pi_seq);(·walk_at "pe"))
local macro_rules | `(tactic| walk_at "po") => `(tactic| first
  |with_reducible exact L2.po_none
  |(with_reducible apply L2.po_some);(·walk_at "pe"))
local macro_rules | `(tactic| walk_at "te") => `(tactic| first
  |(with_reducible apply L2.pss_one);(·walk_at "te")
  |with_reducible exact L2.pss_nil
  |(with_reducible apply L2.pss_cons);(·walk_at "te");(·walk_at "te")
  |(with_reducible apply L2.ps_set);(·(first|assumption|decide+kernel));(·rfl);(·(first|exact Or.inl rfl|exact Or.inr rfl|assumption|rfl));(·walk_at "pe");(·rfl);(·(first|exact Or.inl rfl|exact Or.inr rfl|assumption|rfl))
  |(with_reducible apply L2.ps_expr);(·walk_at "pe");(·rfl)
  |(with_reducible apply L2.ps_ret);(·walk_at "pe")
  |(with_reducible apply L2.ps_if);(·walk_at "pt");(·walk_at "te");(·walk_at "te")
  |(with_reducible apply L2.ps_for);(·walk_at "to");(·rfl);(·walk_at "pi");(·walk_at "pg");(·walk_at "te");(·(intro _;rfl))
  |(with_reducible apply L2.ps_while);(·walk_at "to");(·walk_at "pt");(·walk_at "te"))
local macro_rules | `(tactic| walk_at "ok") => `(tactic| (intros; refine L3.exT (by walk_at "so") ?_; first | (apply L2.pss_cons);(·walk_at "te");(·walk_at "te") | (apply L2.pss_one);(·walk_at "te")))
local macro_rules | `(tactic| walk_at "os") => `(tactic| (intros; refine L3.exS (by walk_at "so") ?_; first | (apply L2.pss_cons);(·walk_at "te");(·walk_at "te") | (apply L2.pss_one);(·walk_at "te")))
namespace K65
open PySem L2 L3
noncomputable def top (i : Nat) : Stmt := PySem.Challenge.pw_chordbed_k65_whole_no_shorter_twofold.main.body.getD i (.Pass ⟨0, 0, 0, 0⟩)
noncomputable def fb : Stmt → List Stmt
  | .For _ _ b _ _ => b
  | .If _ b _ _ => b
  | _ => []
noncomputable def av : Stmt → Expr
  | .Assign _ v _ => v
  | _ => .Name "" ⟨0, 0, 0, 0⟩
noncomputable def ss : Expr → Expr
  | .Subscript _ v _ => v
  | e => e
noncomputable def sP : Expr → Pos
  | .Subscript _ _ p => p
  | _ => ⟨0, 0, 0, 0⟩
noncomputable def lp : Expr → Pos
  | .List _ p => p
  | _ => ⟨0, 0, 0, 0⟩
noncomputable def iT : Stmt → Expr
  | .If c _ _ _ => c
  | _ => .Name "" ⟨0, 0, 0, 0⟩
noncomputable def fI : Stmt → Expr
  | .For _ i _ _ _ => i
  | _ => .Name "" ⟨0, 0, 0, 0⟩
noncomputable def iP : Stmt → Pos
  | .If _ _ _ p => p
  | _ => ⟨0, 0, 0, 0⟩
noncomputable def aP : Stmt → Pos
  | .Assign _ _ p => p
  | _ => ⟨0, 0, 0, 0⟩
noncomputable def nP : Stmt → Pos
  | .Assign [.Name _ p] _ _ => p
  | _ => ⟨0, 0, 0, 0⟩
noncomputable def sv : Expr → Expr
  | .Subscript v _ _ => v
  | e => e
noncomputable def le : Expr → List Expr
  | .List l _ => l
  | _ => []
noncomputable def slo : Expr → Option Expr
  | .Slice a _ _ _ => a
  | _ => none
noncomputable def shi : Expr → Option Expr
  | .Slice _ a _ _ => a
  | _ => none
noncomputable def slP : Expr → Pos
  | .Slice _ _ _ p => p
  | _ => ⟨0, 0, 0, 0⟩
noncomputable def tle : Expr → List Expr
  | .Tuple l _ _ => l
  | _ => []
noncomputable def rvE : Stmt → Expr
  | .Return (some e) _ => e
  | _ => .Name "" ⟨0, 0, 0, 0⟩
noncomputable def rP : Stmt → Pos
  | .Return _ p => p
  | _ => ⟨0, 0, 0, 0⟩
noncomputable def bl : Expr → Expr
  | .BinOp a _ _ _ => a
  | e => e
noncomputable def br : Expr → Expr
  | .BinOp _ _ b _ => b
  | e => e
noncomputable def bP : Expr → Pos
  | .BinOp _ _ _ p => p
  | _ => ⟨0, 0, 0, 0⟩
noncomputable def dK : Expr → List (Option Expr)
  | .Dict k _ _ => k
  | _ => []
noncomputable def dV : Expr → List Expr
  | .Dict _ v _ => v
  | _ => []
noncomputable def dP : Expr → Pos
  | .Dict _ _ p => p
  | _ => ⟨0, 0, 0, 0⟩
noncomputable def DP : Stmt := .Pass ⟨0, 0, 0, 0⟩
noncomputable def DE : Expr := .Name "" ⟨0, 0, 0, 0⟩
theorem sw_List {l p t n env} : swapsWith (.List l p) t n env = pure false := rfl
theorem sw_Tuple {l k p t n env} : swapsWith (.Tuple l k p) t n env = pure false := rfl
theorem sw_Call {a b c p t n env} : swapsWith (.Call a b c p) t n env = pure false := rfl
theorem sw_BinOp {a o b p t n env} : swapsWith (.BinOp a o b p) t n env = pure false := rfl
theorem sw_Subscript {a b p t n env} : swapsWith (.Subscript a b p) t n env = pure false := rfl
theorem sw_Name {a p t n env} : swapsWith (.Name a p) t n env = pure false := rfl
theorem sw_Constant {a b p t n env} : swapsWith (.Constant a b p) t n env = pure false := rfl
theorem sw_UnaryOp {o a p t n env} : swapsWith (.UnaryOp o a p) t n env = pure false := rfl
theorem sw_Compare {a b c p t n env} : swapsWith (.Compare a b c p) t n env = pure false := rfl
theorem sw_BoolOp {a b p t n env} : swapsWith (.BoolOp a b p) t n env = pure false := rfl
theorem sw_IfExp {a b c p t n env} : swapsWith (.IfExp a b c p) t n env = pure false := rfl
section
variable {P : Program} {w : World} {K : PySem.W.Frag} {mg : Str → Option Value} {base : Heap} {f : Addr} {fd : FuncData}
theorem ok__law_rows (F : Fun K "_law_rows" "_law_rows" (top 13) f fd) (z_list : mg "list" = none) (z_range : mg "range" = none) (z_len : mg "len" = none) : FnOk P w K mg base CX0 1 f fd ["_law_book_here"] (spP K 1 F__law_rows) := okF2 (N := ["_law_book_here", "_law_found", "_law_ahead", "_law_turn", "_law_later", "_law_words", "_law_strokes", "_law_name", "_law_more"]) (g := g__law_rows) F (by walk_at "sc") rfl rfl rfl fun cdv A outer s H E nd hr hu hu1 hv => exS (so_seq (so_asg (eo_comp rfl rfl (io_seq eo_var) (go_tup (gs_cons go_name (gs_cons go_name gs_nil))) tto_true (eo_tup (ao_cons (eo_lst (ao_cons eo_var ao_nil)) (ao_cons eo_var ao_nil)))) go_name)
      (so_seq (by walk_at "so")
      (so_seq (by walk_at "so")
      (so_ret eo_var)))) (pss_cons (ps_comp (i := 1) ["_law_name", "_law_strokes"] [] nd rfl rfl rfl (pi_seq (pv 0)) (fun _ _ _ _ => (pg_tup rfl (pgs_cons (pg_name (i := 0) (show List.Nodup (["_law_name", "_law_strokes"] : List Str) by decide +kernel) rfl (Or.inl rfl)) (pgs_cons (pg_name (i := 1) (show List.Nodup (["_law_name", "_law_strokes"] : List Str) by decide +kernel) rfl (Or.inl rfl)) pgs_nil)))) (fun _ _ _ _ => pifs_nil) (fun _ _ _ _ => (pe_tup (pa_cons (pe_lst (pa_cons (pv 0) pa_nil)) (pa_cons (pv 1) pa_nil)))) trivial rfl)
      (pss_cons (by walk_at "te")
      (pss_cons (by walk_at "te")
      (pss_one (ps_ret (pv 1))))))
theorem ok__law_cell (F : Fun K "_law_cell" "_law_cell" (top 8) f fd) : FnOk P w K mg base CX0 1 f fd ["_law_script", "_law_k"] (spP K 2 F__law_cell) := okF2 (N := ["_law_script", "_law_k"]) (g := g__law_cell) F (by walk_at "sc") rfl rfl rfl fun cdv A outer s H E nd hr hu hu1 hv => exS (so_ret (eo_op opp_ix (eo_op opp_add (eo_sl slp_any eo_var (too_some eo_var) (too_some (eo_op opp_add eo_var eo_int))) (eo_lst (ao_cons eo_int ao_nil))) eo_int)) (pss_one (ps_ret (pe_ix ix_seq (pe_op op_addA (pe_slice sl_any (pv 0) (po_some (pv 1)) (po_some (pe_op op_addA (pv 1) pe_int))) (pe_lst (pa_cons pe_int pa_nil))) pe_int (fun _ _ => rfl))))
theorem ok__law_stirred (F : Fun K "_law_stirred" "_law_stirred" (top 9) f fd) : FnOk P w K mg base CX0 1 f fd ["_law_cell_here", "_law_salt"] (spP K 2 F__law_stirred) := okF2 (N := ["_law_cell_here", "_law_salt", "_law_number"]) (g := g__law_stirred) F (by walk_at "sc") rfl rfl rfl (by delta g__law_stirred;walk_at "os")
theorem ok__law_wide (F : Fun K "_law_wide" "_law_wide" (top 10) f fd) (c__law_stirred : CalP P w K mg base 1 "_law_stirred" ["_law_cell_here", "_law_salt"] 2 F__law_stirred) (z_max : mg "max" = none) : FnOk P w K mg base CX0 2 f fd ["_law_cell_here", "_law_salt"] (spP K 2 F__law_wide) := okF2 (N := ["_law_cell_here", "_law_salt"]) (g := g__law_wide) F (by walk_at "sc") rfl rfl rfl (by delta g__law_wide;walk_at "os")
theorem ok__law_book (F : Fun K "_law_book" "_law_book" (top 12) f fd) (c__law_cell : CalP P w K mg base 1 "_law_cell" ["_law_script", "_law_k"] 2 F__law_cell) (c__law_wide : CalP P w K mg base 2 "_law_wide" ["_law_cell_here", "_law_salt"] 2 F__law_wide) (z_range : mg "range" = none) (z_tuple : mg "tuple" = none) : FnOk P w K mg base CX0 3 f fd ["_law_script"] (spP K 1 F__law_book) := okF2 (N := ["_law_script", "_law_found", "_law_k", "_law_cell_here", "_law_strokes", "_law_j"]) (g := g__law_book) F (by walk_at "sc") rfl rfl rfl fun cdv A outer s H E nd hr hu hu1 hv => exS (so_seq (so_asg (eo_lst ao_nil) go_name)
      (so_seq (by walk_at "so")
      (by walk_at "so"))) (pss_cons (ps_set (i := 1) nd rfl (Or.inl rfl) (pe_lst pa_nil))
      (pss_cons (by walk_at "te")
      (pss_one (by walk_at "te"))))
theorem ok_begins (F : Fun K "begins" "begins" (top 6) f fd) (z_len : mg "len" = none) : FnOk P w K mg base CX0 1 f fd ["part", "whole"] (spP K 2 F_begins) := okF2 (N := ["part", "whole"]) (g := g_begins) F (by walk_at "sc") rfl rfl rfl fun cdv A outer s H E nd hr hu hu1 hv => exS (so_ret (eo_op opp_eq (eo_sl slp_B eo_var too_none (too_some (eo_cb cb_len (ao_cons eo_var ao_nil)))) eo_var)) (pss_one (ps_ret (pe_cmpR (op_eqD hu) (pe_slice sl_anyB (pv 1) po_none (po_some (pe_callB call_len rfl z_len b_len (pa_cons (pv 0) pa_nil)))) (pv 0) (nomark _))))
theorem ok_first_ways (F : Fun K "first_ways" "first_ways" (top 4) f fd) (c_begins : CalP P w K mg base 1 "begins" ["part", "whole"] 2 F_begins) (z_len : mg "len" = none) : FnOk P w K mg base CX0 2 f fd ["book"] (spP K 1 F_first_ways) := okF2 (N := ["book", "ways", "one", "part", "other", "whole"]) (g := g_first_ways) F (by walk_at "sc") rfl rfl rfl fun cdv A outer s H E nd hr hu hu1 hv => exS (so_seq (so_asg (eo_lst ao_nil) go_name)
      (so_seq (by walk_at "so")
      (so_ret eo_var))) (pss_cons (ps_set (i := 1) nd rfl (Or.inl rfl) (pe_lst pa_nil))
      (pss_cons (by walk_at "te")
      (pss_one (ps_ret (pv 1)))))
theorem ok_next_ways (F : Fun K "next_ways" "next_ways" (top 5) f fd) (c_begins : CalP P w K mg base 1 "begins" ["part", "whole"] 2 F_begins) (z_len : mg "len" = none) : FnOk P w K mg base CX0 2 f fd ["book", "way"] (spP K 2 F_next_ways) := okF2 (N := ["book", "way", "price", "rest", "ways", "word", "strokes", "over"]) (g := g_next_ways) F (by walk_at "sc") rfl rfl rfl fun cdv A outer s H E nd hr hu hu1 hv => exS (so_seq (by walk_at "so")
      (so_seq (by walk_at "so")
      (so_seq (by walk_at "so")
      (so_seq (so_asg (eo_lst ao_nil) go_name)
      (so_seq (by walk_at "so")
      (so_ret eo_var)))))) (pss_cons (by walk_at "te")
      (pss_cons (by walk_at "te")
      (pss_cons (by walk_at "te")
      (pss_cons (ps_set (i := 4) nd rfl (Or.inl rfl) (pe_lst pa_nil))
      (pss_cons (by walk_at "te")
      (pss_one (ps_ret (pv 4))))))))
end
end K65
namespace K65
open PySem L2 L3 L10
section
variable {P : Program} {w : World} {K : PySem.W.Frag} {mg : Str → Option Value} {base : Heap} {f : Addr} {fd : FuncData}
theorem ok_offer (F : Fun K "offer" "offer" (top 3) f fd) (z_min : mg "min" = none) : FnOk P w K mg base CX0 3 f fd ["offers", "ways"] (spS K 2 F_offer) := okS2 (N := ["offers", "ways", "way", "rest"]) (g := g_offer) F (by walk_at "sc") rfl rfl rfl fun cdv A outer s H E nd hr hu hu1 hv => exT (sos_for (iot_seq eos_var) gos_name (sos_seq (sos_asg (eos_lift (eo_op opp_ix eo_var eo_int)) gos_name)
      (sos_ddput eos_var (eos_lift eo_var) (eos_cb cb_minDD (aos_cons (eos_lift eo_var) (aos_cons (eos_ddget2 eos_var (eos_lift eo_var) (eos_lift eo_var)) aos_nil)))))) (pss_one (ps_for PassesOwn.never rfl (pi_seq (pv 1)) (pg_name (i := 2) nd rfl (Or.inl rfl)) (pss_cons (ps_set (i := 3) nd rfl (Or.inl rfl) (pe_ix ix_seq (pv 2) pe_int (fun _ _ => rfl)))
      (pss_one (LD.ps_ddput hu (pv 0) (pv 3) (pe_callB (LD.call_min2 rfl hu) rfl z_min b_min (pa_cons (pv 2) (pa_cons (LD.pe_ddget2 hu (pv 0) (pv 3) (pv 2) ⟨rfl, rfl, rfl, rfl⟩) pa_nil))) rfl)))))
theorem ok_cheapest_ways (F : Fun K "cheapest_ways" "cheapest_ways" (top 2) f fd) (c_offer : CalS P w K mg base 3 "offer" ["offers", "ways"] 2 F_offer) (c_first_ways : CalP P w K mg base 2 "first_ways" ["book"] 1 F_first_ways) (c_next_ways : CalP P w K mg base 2 "next_ways" ["book", "way"] 2 F_next_ways) (z_min : mg "min" = none) : FnOk P w K mg base CX0 4 f fd ["book"] (spS K 1 F_cheapest_ways) := okS2 (N := ["book", "ways", "offers", "way"]) (g := g_cheapest_ways) F (by walk_at "sc") rfl rfl rfl fun cdv A outer s H E nd hr hu hu1 hv => exT (sos_seq (sos_asg eos_ddnew gos_name)
      (sos_seq (sos_asg eos_ddnew gos_name)
      (sos_seq (sos_drop (eos_calS0 (aos_cons eos_var (aos_cons (eos_lift (eo_cal (ao_cons eo_var ao_nil))) aos_nil))))
      (sos_seq (sos_while (tts_b (eos_ddne eos_var)) (sos_seq (sos_asg (eos_ddmin eos_var) gos_name)
      (sos_seq (sos_ddput eos_var (eos_lift (eo_op opp_ix eo_var eo_int)) (eos_ddpop eos_var (eos_lift (eo_op opp_ix eo_var eo_int))))
      (sos_drop (eos_calS0 (aos_cons eos_var (aos_cons (eos_comp rfl rfl (iot_lift (io_seq (eo_cal (ao_cons eo_var (ao_cons eo_var ao_nil))))) gos_name (tts_b (eos_ddin (eos_lift (eo_op opp_ix eo_var eo_int)) eos_var)) (eos_lift eo_var)) aos_nil)))))))
      (sos_ret eos_var))))) (pss_cons (ps_set (i := 1) nd rfl (Or.inr rfl) LD.pe_ddnew)
      (pss_cons (ps_set (i := 2) nd rfl (Or.inl rfl) LD.pe_ddnew)
      (pss_cons (ps_expr (pe_cal c_offer hr (pa_cons (pv 2) (pa_cons (pe_cal c_first_ways hr (pa_cons (pv 0) pa_nil)) pa_nil))))
      (pss_cons (ps_while PassesOwn.never (pt_cmp (LD.pc_ddne hu (pv 2)) (by with_unfolding_all rfl)) (pss_cons (ps_set (i := 3) nd rfl (Or.inl rfl) (pe_callB (LD.call_minV rfl hu) rfl z_min b_min (pa_cons (LD.pe_ddvals (pv 2) rfl rfl) pa_nil)))
      (pss_cons (LD.ps_ddput hu (pv 1) (pe_ix ix_seq (pv 3) pe_int (fun _ _ => rfl)) (LD.pe_ddpop hu (pv 2) (pe_ix ix_seq (pv 3) pe_int (fun _ _ => rfl)) ⟨rfl, rfl, rfl, rfl⟩) rfl)
      (pss_one (ps_expr (pe_cal c_offer hr (pa_cons (pv 2) (pa_cons (pe_comp ["further"] [("ways", 1)] rfl (pi_seq (pe_cal c_next_ways hr (pa_cons (pv 0) (pa_cons (pv 3) pa_nil)))) (fun _ _ _ _ => (pg_name (i := 0) (show List.Nodup (["further", "ways"] : List Str) by decide +kernel) rfl (Or.inl rfl))) (fun _ _ _ _ => (pifs_one (pt_cmp (LD.pc_ddnin hu (pe_ix ix_seq (pv 0) pe_int (fun _ _ => rfl)) (pv 1)) (by with_unfolding_all rfl)))) (fun _ _ _ _ => (pv 0)) ⟨⟨rfl, rfl, Or.inl rfl⟩, trivial⟩ rfl) pa_nil))))))))
      (pss_one (ps_ret (pv 1)))))))
theorem ok_twofold (F : Fun K "twofold" "twofold" (top 1) f fd) (c_cheapest_ways : CalS P w K mg base 4 "cheapest_ways" ["book"] 1 F_cheapest_ways) (z_list : mg "list" = none) : FnOk P w K mg base CX0 5 f fd ["book"] (spS K 1 F_twofold) := okS2 (N := ["book", "ways"]) (g := g_twofold) F (by walk_at "sc") rfl rfl rfl fun cdv A outer s H E nd hr hu hu1 hv => exT (sos_seq (sos_asg (eos_calS0 (aos_cons (eos_lift eo_var) aos_nil)) gos_name)
      (sos_seq (sos_if (tts_b (eos_ddin (eos_lift (eo_tup ao_nil)) eos_var)) (sos_ret (eos_lift eo_non)) sos_next)
      (sos_ret (eos_tup (aos_cons (eos_cb cb_list (aos_cons (eos_ix (eos_ddget eos_var (eos_lift (eo_tup ao_nil))) (eos_lift eo_int)) aos_nil)) (aos_cons (eos_cb cb_list (aos_cons (eos_ix (eos_ddget eos_var (eos_lift (eo_tup ao_nil))) (eos_lift eo_int)) aos_nil)) aos_nil)))))) (pss_cons (ps_set (i := 1) nd rfl (Or.inl rfl) (pe_cal c_cheapest_ways hr (pa_cons (pv 0) pa_nil)))
      (pss_cons (ps_if (pt_cmp (LD.pc_ddnin hu (pe_tup pa_nil) (pv 1)) (by with_unfolding_all rfl)) (pss_one (ps_ret pe_non)) pss_nil)
      (pss_one (ps_ret (pe_tup (pa_cons (pe_callTy call_list_of rfl z_list b_list (pa_cons (pe_ix ix_seq (LD.pe_ddget hu (pv 1) (pe_tup pa_nil) (fun _ _ => rfl)) pe_int (fun _ _ => rfl)) pa_nil)) (pa_cons (pe_callTy call_list_of rfl z_list b_list (pa_cons (pe_ix ix_seq (LD.pe_ddget hu (pv 1) (pe_tup pa_nil) (fun _ _ => rfl)) pe_int (fun _ _ => rfl)) pa_nil)) pa_nil)))))))
theorem ok_law (F : Fun K "law" "law" (top 14) f fd) (c_twofold : CalS P w K mg base 5 "twofold" ["book"] 1 F_twofold) (c__law_book : CalP P w K mg base 3 "_law_book" ["_law_script"] 1 F__law_book) (c__law_rows : CalP P w K mg base 1 "_law_rows" ["_law_book_here"] 1 F__law_rows) (z_len : mg "len" = none) (z_dict : mg "dict" = none) (z_sum : mg "sum" = none) : FnOk P w K mg base CX0 6 f fd ["_law_script"] (spS K 1 F_law) := okS2 (N := ["_law_script", "_law_book_here", "_law_known", "_law_least", "_law_words", "_law_strokes", "_law_found", "_law_lengths", "_law_shortest"]) (g := g_law) F (by walk_at "sc") rfl rfl rfl fun cdv A outer s H E nd hr hu hu1 hv => exT (sos_seq (sos_asg (eos_lift (eo_cal (ao_cons eo_var ao_nil))) gos_name)
      (sos_seq (sos_asg eos_ddnew gos_name)
      (sos_seq (sos_asg (eos_lift eo_non) gos_name)
      (sos_seq (sos_for (iot_lift (io_seq (eo_cal (ao_cons eo_var ao_nil)))) (gos_tup (gss_cons gos_name (gss_cons gos_name gss_nil))) (sos_seq (sos_if (tts_and (tts_b (eos_ddin (eos_lift eo_var) eos_var)) (tts_lift (tto_or (tto_test (eo_op opp_isn eo_var eo_non)) (tto_test (eo_op opp_lt (eo_cb cb_len (ao_cons eo_var ao_nil)) eo_var))))) (sos_asg (eos_lift (eo_cb cb_len (ao_cons eo_var ao_nil))) gos_name) sos_next)
      (sos_ddput eos_var (eos_lift eo_var) (eos_lift eo_var))))
      (sos_seq (sos_asg (eos_frz (eos_calS0 (aos_cons (eos_lift eo_var) aos_nil))) gos_name)
      (sos_seq (sos_if (tts_lift (tto_test (eo_op opp_isn eo_var eo_non))) (sos_ret (eos_lift (eo_op opp_isn eo_var eo_non))) sos_next)
      (sos_seq (sos_asg (eos_ddctL (eos_lift (eo_comp rfl rfl (io_seq eo_var) (go_tup (gs_cons go_name (gs_cons go_name gs_nil))) tto_true (eo_tup (ao_cons eo_var (ao_cons (eo_cb cb_len (ao_cons eo_var ao_nil)) ao_nil)))))) gos_name)
      (sos_seq (sos_asg (eos_cb cb_sumL (aos_cons (eos_comp rfl rfl (iot_lift (io_seq (eo_op opp_ix eo_var eo_int))) gos_name tts_true (eos_dget2 eos_var (eos_lift eo_var) (eos_lift eo_int))) aos_nil)) gos_name)
      (sos_ret (eos_lift (eo_or (eo_op opp_isn eo_var eo_non) (eo_op opp_ge eo_var eo_var)))))))))))) (pss_cons (ps_set (i := 1) nd rfl (Or.inl rfl) (pe_cal c__law_book hr (pa_cons (pv 0) pa_nil)))
      (pss_cons (ps_set (i := 2) nd rfl (Or.inl rfl) LD.pe_ddnew)
      (pss_cons (ps_set (i := 3) nd rfl (Or.inl rfl) pe_non)
      (pss_cons (ps_for PassesOwn.never rfl (pi_seq (pe_cal c__law_rows hr (pa_cons (pv 1) pa_nil))) (pg_tup rfl (pgs_cons (pg_name (i := 4) nd rfl (Or.inl rfl)) (pgs_cons (pg_name (i := 5) nd rfl (Or.inl rfl)) pgs_nil))) (pss_cons (ps_if (PW.pt (pw_and (pt_cmp (LD.pc_ddin hu (pv 5) (pv 2)) (by with_unfolding_all rfl)) (pw_and1 (PW.pt (pw_or (pt_cmpR op_isN (pv 3) pe_non (nomark _)) (pw_or1 (pt_cmpR op_lt (pe_callB call_len rfl z_len b_len (pa_cons (pv 5) pa_nil)) (pv 3) (nomark _)))))))) (pss_one (ps_set (i := 3) nd rfl (Or.inl rfl) (pe_callB call_len rfl z_len b_len (pa_cons (pv 5) pa_nil)))) pss_nil)
      (pss_one (LD.ps_ddput hu (pv 2) (pv 5) (pv 4) rfl))))
      (pss_cons (ps_set (i := 6) nd rfl (Or.inl rfl) (pe_cal c_twofold hr (pa_cons (pv 1) pa_nil)))
      (pss_cons (ps_if (pt_cmpR op_isN (pv 6) pe_non (nomark _)) (pss_one (ps_ret (pe_cmpR op_isN (pv 3) pe_non (nomark _)))) pss_nil)
      (pss_cons (ps_set (i := 7) nd rfl (Or.inr rfl) (pe_callTy (call_dictL rfl) rfl z_dict b_dict (pa_cons (pe_comp ["_law_name", "_law_strokes"] [] rfl (pi_seq (pv 1)) (fun _ _ _ _ => (pg_tup rfl (pgs_cons (pg_name (i := 0) (show List.Nodup (["_law_name", "_law_strokes"] : List Str) by decide +kernel) rfl (Or.inl rfl)) (pgs_cons (pg_name (i := 1) (show List.Nodup (["_law_name", "_law_strokes"] : List Str) by decide +kernel) rfl (Or.inl rfl)) pgs_nil)))) (fun _ _ _ _ => pifs_nil) (fun _ _ _ _ => (pe_tup (pa_cons (pv 0) (pa_cons (pe_callB call_len rfl z_len b_len (pa_cons (pv 1) pa_nil)) pa_nil)))) trivial rfl) pa_nil)))
      (pss_cons (ps_set (i := 8) nd rfl (Or.inl rfl) (pe_callB (call_sumL rfl) rfl z_sum b_sum (pa_cons (pe_comp ["_law_word"] [("_law_lengths", 7)] rfl (pi_seq (pe_ix ix_seq (pv 6) pe_int (fun _ _ => rfl))) (fun _ _ _ _ => (pg_name (i := 0) (show List.Nodup (["_law_word", "_law_lengths"] : List Str) by decide +kernel) rfl (Or.inl rfl))) (fun _ _ _ _ => pifs_nil) (fun _ _ _ _ => (pe_dget2 hu1 (pv 1) (pv 0) pe_int ⟨rfl, rfl, rfl, rfl⟩)) ⟨⟨rfl, rfl, Or.inl rfl⟩, trivial⟩ rfl) pa_nil)))
      (pss_one (ps_ret (pe_or (pe_cmpR op_isN (pv 3) pe_non (nomark _)) (pe_one (pe_cmpR op_ge (pv 3) (pv 8) (nomark _))))))))))))))
end
end K65
local macro_rules | `(tactic| walk_at "ba") => `(tactic| (intro _ _ _ _ _ _ us hl; first | (match us, hl with | [_], _ => rfl) | (match us, hl with | [_, _], _ => rfl) | (match us, hl with | [_, _, _], _ => rfl) | (match us, hl with | [_, _, _, _], _ => rfl) | (match us, hl with | [_, _, _, _, _], _ => rfl) | (match us, hl with | [], _ => rfl)))
local macro_rules | `(tactic| walk_at "fl") => `(tactic| first | exact List.forall_mem_nil _ | (refine List.forall_mem_cons.mpr ⟨?_, ?_⟩; (· (show PySem.W.findIn _ _ _ = _; k_is)); walk_at "fl"))
local macro_rules | `(tactic| walk_at "ki") => `(tactic| first | (refine' L3.NI.mk ?a ⟨_, L2.fun_mk ?b ?c ?d⟩; (case a => k_is); (case b => k_is); (case c => k_is); (case d => k_is)) | (refine' L3.MI.mk ?a ?e ⟨_, L2.fun_mk ?b ?c ?d⟩; (case a => k_is); (case e => k_is); (case b => k_is); (case c => k_is); (case d => k_is)) | (refine' L3.CI.mk ?a ?b ?c ?d ?e ?f ?g ?i; (case a => k_is); (case b => k_is); (case c => k_is); (case d => k_is); (case e => k_is); (case f => k_is); (case g => k_is); (case i => walk_at "fl")) | k_is | k_exc | rfl | decide +kernel | (rw [← Array.all_toList]; rfl))
namespace K65
open PySem L2 L3
noncomputable def F_lawH : FN := L10.toP F_law
theorem all_mk {l : PySem.W.OpenLaw} {w : World} {K : PySem.W.Frag} {h : Heap} {mg : Str → Option Value} {fa : Addr}
    {f0 f1 f2 f3 f4 f5 f6 f7 f8 f9 f10 f11 : Addr} (X : K.In h) (G : h.Ns mainGlobals mg) (hfa : mg "law" = some (.ref fa))
    (h0 : NI K f0 "_law_rows" (top 13))
    (h1 : NI K f1 "_law_cell" (top 8))
    (h2 : NI K f2 "_law_stirred" (top 9))
    (h3 : NI K f3 "_law_wide" (top 10))
    (h4 : NI K f4 "_law_book" (top 12))
    (h5 : NI K f5 "begins" (top 6))
    (h6 : NI K f6 "first_ways" (top 4))
    (h7 : NI K f7 "next_ways" (top 5))
    (h8 : NI K f8 "offer" (top 3))
    (h9 : NI K f9 "cheapest_ways" (top 2))
    (h10 : NI K f10 "twofold" (top 1))
    (h11 : NI K f11 "law" (top 14))
    (y0 : PySem.W.nsIn K mainGlobals "list" = some none)
    (y1 : PySem.W.nsIn K mainGlobals "range" = some none)
    (y2 : PySem.W.nsIn K mainGlobals "len" = some none)
    (y3 : PySem.W.nsIn K mainGlobals "max" = some none)
    (y4 : PySem.W.nsIn K mainGlobals "tuple" = some none)
    (y5 : PySem.W.nsIn K mainGlobals "min" = some none)
    (y6 : PySem.W.nsIn K mainGlobals "dict" = some none)
    (y7 : PySem.W.nsIn K mainGlobals "sum" = some none) :
    ∃ fd : FuncData, (∀ (s : Shared) (v : Value), BindsTo s fd ⟨[v], []⟩ [("_law_script", v)]) ∧ ∀ base : Heap, K.In base → base.Ns mainGlobals mg → FnOk l.prog w K mg base CX0 6 fa fd ["_law_script"] (L3.spP K 1 F_lawH) := by
  have z_list := PySem.W.mg_none_of X G y0
  have z_range := PySem.W.mg_none_of X G y1
  have z_len := PySem.W.mg_none_of X G y2
  have z_max := PySem.W.mg_none_of X G y3
  have z_tuple := PySem.W.mg_none_of X G y4
  have z_min := PySem.W.mg_none_of X G y5
  have z_dict := PySem.W.mg_none_of X G y6
  have z_sum := PySem.W.mg_none_of X G y7
  refine h11.law X G hfa (by walk_at "ba") fun base fd F_law_ => ?_
  have c__law_rows := h0.cal (P := l.prog) (w := w) (mg := mg) (base := base) X G (by walk_at "ba") fun _ z => ok__law_rows z z_list z_range z_len
  have c__law_cell := h1.cal (P := l.prog) (w := w) (mg := mg) (base := base) X G (by walk_at "ba") fun _ z => ok__law_cell z
  have c__law_stirred := h2.cal (P := l.prog) (w := w) (mg := mg) (base := base) X G (by walk_at "ba") fun _ z => ok__law_stirred z
  have c__law_wide := h3.cal (P := l.prog) (w := w) (mg := mg) (base := base) X G (by walk_at "ba") fun _ z => ok__law_wide z c__law_stirred z_max
  have c__law_book := h4.cal (P := l.prog) (w := w) (mg := mg) (base := base) X G (by walk_at "ba") fun _ z => ok__law_book z c__law_cell c__law_wide z_range z_tuple
  have c_begins := h5.cal (P := l.prog) (w := w) (mg := mg) (base := base) X G (by walk_at "ba") fun _ z => ok_begins z z_len
  have c_first_ways := h6.cal (P := l.prog) (w := w) (mg := mg) (base := base) X G (by walk_at "ba") fun _ z => ok_first_ways z c_begins z_len
  have c_next_ways := h7.cal (P := l.prog) (w := w) (mg := mg) (base := base) X G (by walk_at "ba") fun _ z => ok_next_ways z c_begins z_len
  have c_offer := h8.cal (P := l.prog) (w := w) (mg := mg) (base := base) X G (by walk_at "ba") fun _ z => ok_offer z z_min
  have c_cheapest_ways := h9.cal (P := l.prog) (w := w) (mg := mg) (base := base) X G (by walk_at "ba") fun _ z => ok_cheapest_ways z c_offer c_first_ways c_next_ways z_min
  have c_twofold := h10.cal (P := l.prog) (w := w) (mg := mg) (base := base) X G (by walk_at "ba") fun _ z => ok_twofold z c_cheapest_ways z_list
  exact (ok_law F_law_ c_twofold c__law_book c__law_rows z_len z_dict z_sum).imp (fun _ _ _ _ h => L10.sp_toP h)
end K65
noncomputable def PySem.W.Fast.tw10945380187199127785 : Unit := ()
noncomputable def PySem.W.Fast.tw12112866896883429059 : Unit := ()
noncomputable def PySem.W.Fast.tw16096022755019236105 : Unit := ()
noncomputable def PySem.W.Fast.tw11273658502807139449 : Unit := ()
open PySem PySem.W PyProof.Rows
set_option maxRecDepth 100000 in
set_option maxHeartbeats 0 in
theorem PySem.Challenge.cw_chordbed_k65_whole_no_shorter_twofold_holds : PySem.Challenge.rw_chordbed_k65_whole_no_shorter_twofold.Holds := by
  w_on; o_law; k_head; (case hw => w_witness2)
  k_fill
  refine L3.walkX (l := PySem.Challenge.rw_chordbed_k65_whole_no_shorter_twofold) (n := 63) (k := 6) (x := "_law_script") (F := K65.F_lawH) rfl (by decide) rfl ⟨rfl, by decide, by decide⟩ (fun w h Y => PySem.W.kIn_of Y) ?F K65.main
  case F =>
    intro w mg fa h KX G hmg
    apply K65.all_mk KX G hmg
    all_goals walk_at "ki"
