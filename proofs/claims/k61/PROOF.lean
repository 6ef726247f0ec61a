import PyProof.Rows.All
import Wide.All
import OpenK.AllK
import Wide.FinOn
import Lean
import PyProof.EqAt
import PyProof.EqKinds
import PyProof.TupleCall
import KE.KIntText
import KE.KRevSl
import PyProof.Rows.SeqMore
import PyProof.WalkInts
import PyProof.Rows.MinMaxN
import PyProof.ExcInit
import OpenK.KMake
import PyProof.InstStoreFacts
import PyProof.FString2
import PyProof.Rows.FStr
import PyProof.Rows.SetFrom
import PyProof.SeqRoads2
import PyProof.RangeFor
import PyProof.WalksMore
import PyProof.StrBlock2
import PyProof.Rows.SortShell
import PyProof.TupleOfSeq
import PySem.Challenge.RW_chordbed_k61_books
set_option Elab.async false
set_option linter.all false
set_option maxRecDepth 100000
namespace L2
open PySem PySem.Spec PyProof.Rows
noncomputable abbrev Key := Sum Int Str
noncomputable def keyIs : Key → Value → Bool
  | .inl k, v => Value.isInt k v
  | .inr x, v => Value.isStrOf x v
noncomputable def keyH (w : World) : Key → Int
  | .inl k => hashInt k
  | .inr x => hashStr w x
theorem keyIs_shape : ∀ {k : Key} {v : Value}, keyIs k v = true → (∃ i t, k = Sum.inl i ∧ v = Value.int i t) ∨ (∃ x t, k = Sum.inr x ∧ v = Value.str x t)
  | .inl i, v, h => by
    obtain ⟨t, e⟩ := Value.isInt_shape (k := i) (v := v) h
    exact .inl ⟨i, t, rfl, e⟩
  | .inr x, v, h => by
    obtain ⟨t, e⟩ := Value.isStrOf_shape (x := x) (v := v) h
    exact .inr ⟨x, t, rfl, e⟩
theorem key_ll (a b : Int) : decide ((Sum.inl a : Key) = Sum.inl b) = (a == b) := by
  by_cases e : a = b
  · subst e; simp
  · have h : ¬ (Sum.inl a : Key) = Sum.inl b := fun q => e (Sum.inl.inj q)
    rw [decide_eq_false h]
    exact (beq_eq_false_iff_ne.mpr e).symm
theorem key_rr (a b : Str) : decide ((Sum.inr a : Key) = Sum.inr b) = decide (a = b) := by
  by_cases e : a = b
  · subst e; simp
  · have h : ¬ (Sum.inr a : Key) = Sum.inr b := fun q => e (Sum.inr.inj q)
    rw [decide_eq_false h, decide_eq_false e]
theorem key_lr (a : Int) (b : Str) : decide ((Sum.inl a : Key) = Sum.inr b) = false := decide_eq_false (fun q => nomatch q)
theorem key_rl (a : Str) (b : Int) : decide ((Sum.inr a : Key) = Sum.inl b) = false := decide_eq_false (fun q => nomatch q)
noncomputable def mixKind (prog : Program) (w : World) : PySem.KeyKind prog w Key where
  is := keyIs
  hash := keyH w
  inj := fun v a b ha hb => by
    rcases keyIs_shape ha with ⟨i, t, rfl, rfl⟩ | ⟨x, t, rfl, rfl⟩
    · rcases keyIs_shape hb with ⟨j, u, rfl, e⟩ | ⟨y, u, rfl, e⟩
      · injection e with e1 _; rw [e1]
      · exact nomatch e
    · rcases keyIs_shape hb with ⟨j, u, rfl, e⟩ | ⟨y, u, rfl, e⟩
      · exact nomatch e
      · injection e with e1 _; rw [e1]
  byValue := fun k v h => by
    rcases keyIs_shape h with ⟨i, t, rfl, rfl⟩ | ⟨x, t, rfl, rfl⟩ <;> rfl
  pyHash := fun hv h => by
    rcases keyIs_shape hv with ⟨i, t, rfl, rfl⟩ | ⟨x, t, rfl, rfl⟩
    · exact wpAny_pyHash_int h
    · exact wpAny_pyHash_str h
  eqBool := fun hu hv h => by
    rcases keyIs_shape hu with ⟨i, t, rfl, rfl⟩ | ⟨x, t, rfl, rfl⟩
    · rcases keyIs_shape hv with ⟨j, u, rfl, rfl⟩ | ⟨y, u, rfl, rfl⟩
      · rw [key_ll] at h; exact wpAny_eqBool_int h
      · rw [key_lr] at h; exact SeqAt.EqAt.int_str i t y u _ _ _ _ h
    · rcases keyIs_shape hv with ⟨j, u, rfl, rfl⟩ | ⟨y, u, rfl, rfl⟩
      · rw [key_rl] at h; exact SeqAt.EqAt.str_int x t j u _ _ _ _ h
      · rw [key_rr] at h; exact wpAny_eqBool_str h
  «strs» := fun k x t v h => by
    rcases keyIs_shape h with ⟨i, u, rfl, e⟩ | ⟨y, u, rfl, e⟩
    · exact nomatch e
    · injection e with e1 _
      subst e1
      cases v <;> rfl
end L2
namespace L2
open PySem PySem.Spec PyProof.Rows
inductive V where
  | non | bl (b : Bool) | int (i : Int) | str (x : Str) | byt (b : Array UInt8) | flt (b : UInt64) | ref (a : Addr) | ty (n : String)
  deriving DecidableEq
noncomputable def RelV : V → Value → Prop
  | .non, u => u = Value.none
  | .bl b, u => u = Value.bool b
  | .int i, u => ∃ t, u = Value.int i t
  | .str x, u => ∃ t, u = Value.str x t
  | .byt b, u => ∃ t, u = Value.bytes b t
  | .flt b, u => ∃ t, u = Value.float b t
  | .ref a, u => u = Value.ref a
  | .ty n, u => u = Value.type n
noncomputable abbrev Vals : List V → List Value → Prop := Paired RelV
theorem Vals.length {xs : List V} {us : List Value} (r : Vals xs us) : xs.length = us.length := Paired.length r
theorem Vals.get : ∀ {xs : List V} {us : List Value} {i : Nat} {x : V}, Vals xs us → xs[i]? = some x → ∃ u, us[i]? = some u ∧ RelV x u
  | _, _, _, _, .nil, e => by simp at e
  | _, _, 0, _, .cons r _, e => by simp at e; subst e; exact ⟨_, rfl, r⟩
  | _, _, i + 1, x, .cons _ t, e => by
    obtain ⟨u, h1, h2⟩ := Vals.get (i := i) (x := x) t (by simpa using e)
    exact ⟨u, by simpa using h1, h2⟩
theorem Vals.append : ∀ {xs ys : List V} {us ws : List Value}, Vals xs us → Vals ys ws → Vals (xs ++ ys) (us ++ ws)
  | _, _, _, _, .nil, s => s
  | _, _, _, _, .cons r t, s => .cons r (Vals.append t s)
theorem Vals.take : ∀ {xs : List V} {us : List Value} (n : Nat), Vals xs us → Vals (xs.take n) (us.take n)
  | _, _, 0, _ => .nil
  | _, _, _ + 1, .nil => .nil
  | _, _, n + 1, .cons r t => .cons r (Vals.take n t)
theorem Vals.drop : ∀ {xs : List V} {us : List Value} (n : Nat), Vals xs us → Vals (xs.drop n) (us.drop n)
  | _, _, 0, r => r
  | _, _, _ + 1, .nil => .nil
  | _, _, n + 1, .cons _ t => Vals.drop n t
noncomputable def RelO : Option V → Option Value → Prop
  | some v, some u => RelV v u
  | none, none => True
  | _, _ => False
noncomputable def KV {κ : Type} : List (κ × V) → List (κ × Value) → Prop := Paired fun (p : κ × V) (q : κ × Value) => p.1 = q.1 ∧ RelV p.2 q.2
noncomputable def kV : Key → V
  | .inl i => .int i
  | .inr x => .str x
inductive HO where
  | lst (xs : List V)
  | tup (xs : List V)
  | dK (kvs : List (Key × V)) | dT (kvs : List (List Key × V))
  | set (S : Int → Bool) (n : Nat)
  | ins (C dx : Addr) (fs : List (Str × V))
  | own (x : Addr)
  | xd (fs : List (Str × V))
  | met (f x : Addr)
  | rng (lo hi : Int)
  | frz (o : Obj) (u : HO)
  | tbl (ps : Array Value)
  | ext (φ : Heap → Prop)
noncomputable abbrev Hp := Addr → Option HO
noncomputable def upd (H : Hp) (a : Addr) (o : HO) : Hp := fun b => if b = a then some o else H b
theorem upd_same {H : Hp} {a : Addr} {o : HO} : upd H a o a = some o := by unfold upd; rw [if_pos rfl]
theorem upd_ne {H : Hp} {a b : Addr} {o : HO} (h : b ≠ a) : upd H a o b = H b := by unfold upd; rw [if_neg h]
theorem ne_of_none {H : Hp} {a b : Addr} {o : HO} (h : H a = some o) (h' : H b = none) : a ≠ b := by
  intro e; subst e; rw [h] at h'; cases h'
section
variable (P : Program) (w : World)
noncomputable def ObjOk (H : Hp) (h : Heap) (a : Addr) : HO → Prop
  | .lst xs => xs.length ≤ sizeLine ∧ ∃ (its : List Value) (n : Nat), Vals xs its ∧ h.get? a = some { cls := .type "list", data := .seq its.toArray n }
  | .tup xs => xs.length ≤ sizeLine ∧ ∃ its : List Value, Vals xs its ∧ IsTup h a its.toArray
  | .dK kvs => kvs.length ≤ sizeLine ∧ (a == sysModules) = false ∧ ∃ vs, KV kvs vs ∧ h.DictOf (mixKind P w) a vs
  | .dT kvs => kvs.length ≤ sizeLine ∧ (a == sysModules) = false ∧ ∃ xs : List (List Key × Addr × Value),
      Paired (fun (p : List Key × V) (q : List Key × Addr × Value) => p.1 = q.1 ∧ H q.2.1 = some (.tup (p.1.map kV)) ∧ RelV p.2 q.2.2) kvs xs ∧
      ∃ o es ep, h.get? a = some o ∧ o.ExactDict ∧ o.data = .dict es ep ∧ es.toList = xs.map (entryOfKey (tupleKind (mixKind P w))) ∧ (xs.map (·.1)).Nodup
  | .set S n => h.SetOf (intKind P w) a S n
  | .ins C dx fs => H dx = some (.own a) ∧ fs.length ≤ 1000 ∧ dx ≠ a ∧ h.get? a = some (PySem.W.instObj C dx) ∧
      ∃ mA, h.Ns1 dx mA ∧ (∀ f, RelO (fs.lookup f) (mA f)) ∧ PySem.Within mA (fs.map (·.1))
  | .own _ => ∃ o, h.get? a = some o
  | .xd fs => ∃ mA, h.Ns1 a mA ∧ ∀ f, RelO (fs.lookup f) (mA f)
  | .rng lo hi => ∃ t u v, h.get? a = some { cls := .type "range", data := .fields #[.int lo t, .int hi u, .int 1 v] }
  | .frz o u => h.get? a = some o ∧ ObjOk H h a u
  | .tbl ps => h.get? a = some { cls := .none, data := .fields ps }
  | .met f x => h.get? a = some (PySem.W.methodObj (.ref f) (.ref x))
  | .ext φ => φ h ∧ (∃ o, h.get? a = some o) ∧ ∀ h1 h2 : Heap, φ h1 → (∀ o, h1.get? a = some o → h2.get? a = some o) → φ h2
noncomputable def HOk (H : Hp) (h : Heap) : Prop := ∀ a o, H a = some o → ObjOk P w H h a o
end
section
variable {P : Program} {w : World} {H H' : Hp} {h h' : Heap} {a : Addr} {o : HO}
theorem ObjOk.lt (x : ObjOk P w H h a o) : a < h.objs.size := by
  cases o with
  | lst xs => obtain ⟨_, _, _, _, e⟩ := x; exact Heap.lt_size e
  | tup xs => obtain ⟨_, _, _, p⟩ := x; exact p.lt
  | dK kvs => obtain ⟨_, _, _, _, o, _, _, e, _⟩ := x; exact Heap.lt_size e
  | dT kvs => obtain ⟨_, _, _, _, o, _, _, e, _⟩ := x; exact Heap.lt_size e
  | set S n => obtain ⟨o, _, _, _, e, _⟩ := x; exact Heap.lt_size e
  | ins C dx fs => obtain ⟨_, _, _, e, _⟩ := x; exact Heap.lt_size e
  | own y => obtain ⟨_, e⟩ := x; exact Heap.lt_size e
  | xd fs => obtain ⟨_, ⟨_, _, _, e, _⟩, _⟩ := x; exact Heap.lt_size e
  | rng lo hi => obtain ⟨_, _, _, e⟩ := x; exact Heap.lt_size e
  | frz ob u => obtain ⟨e, _⟩ := x; exact Heap.lt_size e
  | tbl ps => exact Heap.lt_size (show h.get? a = some _ from x)
  | met f y => exact Heap.lt_size (show h.get? a = some _ from x)
  | ext φ => obtain ⟨_, ⟨_, e⟩, _⟩ := x; exact Heap.lt_size e
theorem Paired.mapP {α β : Type} {F G : α → β → Prop} : ∀ {l₁ : List α} {l₂ : List β}, Paired F l₁ l₂ → (∀ a b, F a b → G a b) → Paired G l₁ l₂
  | _, _, .nil, _ => .nil
  | _, _, .cons r t, f => .cons (f _ _ r) (Paired.mapP t f)
theorem ObjOk.stay (x : ObjOk P w H h a o) (k : ∀ b u, (b = a ∨ H b = some (.own a)) → h.get? b = some u → h'.get? b = some u)
    (ho : ∀ b, H b = some (.own a) → H' b = some (.own a)) (ht : ∀ b xs, H b = some (.tup xs) → H' b = some (.tup xs)) : ObjOk P w H' h' a o := by
  induction o with
  | lst xs => obtain ⟨z, its, n, r, e⟩ := x; exact ⟨z, its, n, r, k _ _ (.inl rfl) e⟩
  | tup xs => obtain ⟨z, its, r, ob, e, c⟩ := x; exact ⟨z, its, r, ob, k _ _ (.inl rfl) e, c⟩
  | dK kvs => obtain ⟨z, y, vs, r, ob, es, ep, e, c⟩ := x; exact ⟨z, y, vs, r, ob, es, ep, k _ _ (.inl rfl) e, c⟩
  | dT kvs =>
    obtain ⟨z, y, xs, r, ob, es, ep, e, c⟩ := x
    exact ⟨z, y, xs, Paired.mapP r fun p q z => ⟨z.1, ht _ _ z.2.1, z.2.2⟩, ob, es, ep, k _ _ (.inl rfl) e, c⟩
  | set S n => obtain ⟨ob, es, ep, t, e, c⟩ := x; exact ⟨ob, es, ep, t, k _ _ (.inl rfl) e, c⟩
  | ins C dx fs =>
    obtain ⟨d, z, ne, e, mA, ⟨od, es, ep, e2, c⟩, r⟩ := x
    exact ⟨ho _ d, z, ne, k _ _ (.inl rfl) e, mA, ⟨od, es, ep, k _ _ (.inr d) e2, c⟩, r⟩
  | own y => obtain ⟨ob, e⟩ := x; exact ⟨ob, k _ _ (.inl rfl) e⟩
  | xd fs => obtain ⟨mA, ⟨od, es, ep, e, c⟩, r⟩ := x; exact ⟨mA, ⟨od, es, ep, k _ _ (.inl rfl) e, c⟩, r⟩
  | rng lo hi => obtain ⟨t, u, v, e⟩ := x; exact ⟨t, u, v, k _ _ (.inl rfl) e⟩
  | frz ob u ih => obtain ⟨e, q⟩ := x; exact ⟨k _ _ (.inl rfl) e, ih q⟩
  | tbl ps =>
    have e : h.get? a = some { cls := .none, data := .fields ps } := x
    show h'.get? a = some { cls := .none, data := .fields ps }
    exact k a _ (.inl rfl) e
  | met f y =>
    have e : h.get? a = some (PySem.W.methodObj (.ref f) (.ref y)) := x
    show h'.get? a = some (PySem.W.methodObj (.ref f) (.ref y))
    exact k a _ (.inl rfl) e
  | ext φ => obtain ⟨p, ⟨o, e⟩, st⟩ := x; exact ⟨st _ _ p fun o q => k _ _ (.inl rfl) q, ⟨o, k _ _ (.inl rfl) e⟩, st⟩
theorem HOk.lt (x : HOk P w H h) (e : H a = some o) : a < h.objs.size := (x a o e).lt
theorem HOk.fresh (x : HOk P w H h) (e : h.objs.size ≤ a) : H a = none := by
  cases q : H a with
  | none => rfl
  | some u => exact absurd (Nat.lt_of_lt_of_le (x.lt q) e) (Nat.lt_irrefl _)
theorem HOk.kept (x : HOk P w H h) (k : ∀ b u, h.get? b = some u → h'.get? b = some u) : HOk P w H h' := fun a o e =>
  (x a o e).stay (fun b u _ q => k b u q) (fun _ q => q) fun _ _ q => q
theorem HOk.laid (x : HOk P w H h) (k : ∀ b u, h.get? b = some u → h'.get? b = some u) (hp : h.objs.size ≤ a) (new : ObjOk P w (upd H a o) h' a o) : HOk P w (upd H a o) h' := fun b u e => by
  have hn := x.fresh hp
  by_cases hb : b = a
  · subst hb; rw [upd_same] at e; cases e; exact new
  · rw [upd_ne hb] at e
    exact (x b u e).stay (fun c v _ q => k c v q) (fun c q => by rw [upd_ne (ne_of_none q hn)]; exact q) fun c xs q => by rw [upd_ne (ne_of_none q hn)]; exact q
end
noncomputable def Rd (H : Hp) (a : Addr) (u : HO) : Prop := H a = some u ∨ ∃ o, H a = some (.frz o u)
theorem Rd.of {H : Hp} {a : Addr} {u : HO} (h : H a = some u) : Rd H a u := .inl h
theorem Rd.ok {P : Program} {w : World} {H : Hp} {h : Heap} {a : Addr} {u : HO} (r : Rd H a u) (x : HOk P w H h) : ObjOk P w H h a u := by
  rcases r with r | ⟨o, r⟩
  · exact x a u r
  · obtain ⟨_, q⟩ := x a _ r
    exact q
noncomputable def Mut : Option HO → Prop
  | some (.lst _) => True
  | some (.dK _) => True
  | some (.dT _) => True
  | some (.set _ _) => True
  | some (.ins _ _ _) => True
  | some (.ext _) => True
  | _ => False
section
variable {P : Program} {w : World} {H : Hp} {h h' : Heap} {x e : Addr} {o' : HO}
theorem HOk.write (ok : HOk P w H h) (mu : Mut (H x)) (he : e = x ∨ H e = some (.own x)) (k : ∀ b u, b ≠ e → h.get? b = some u → h'.get? b = some u) (heo : ∃ u, h'.get? e = some u)
    (new : ObjOk P w (upd H x o') h' x o') : HOk P w (upd H x o') h' := fun b u q => by
  have nown : ∀ c y, H c = some (.own y) → c ≠ x := fun c y r z => by subst z; rw [r] at mu; exact mu
  have ntup : ∀ c xs, H c = some (.tup xs) → c ≠ x := fun c xs r z => by subst z; rw [r] at mu; exact mu
  by_cases hb : b = x
  · subst hb; rw [upd_same] at q; cases q; exact new
  · rw [upd_ne hb] at q
    by_cases hbe : b = e
    · have q' : H b = some (.own x) := by
        rcases he with z | z
        · exact absurd (hbe.trans z) hb
        · rw [hbe]; exact z
      rw [q] at q'; cases q'
      obtain ⟨v, hv⟩ := heo
      exact ⟨v, by rw [hbe]; exact hv⟩
    · refine (ok b u q).stay (fun c v hc r => k c v ?_ r) (fun c r => by rw [upd_ne (nown c b r)]; exact r) fun c xs r => by rw [upd_ne (ntup c xs r)]; exact r
      rcases hc with rfl | hc
      · exact hbe
      · rintro rfl
        rcases he with z | z
        · exact nown c b hc z
        · rw [hc] at z; cases z; exact hb rfl
end
structure Un (fs ex : List Addr) (H H' : Hp) (h h' : Heap) : Prop where
  keep : ∀ b o, h.get? b = some o → H b = none → b ∉ fs → b ∉ ex → h'.get? b = some o
  slot : ∀ b o, h.get? b = some o → H b = none → b ∈ fs → b ∉ ex → ∃ sl, h'.get? b = some { o with slots := sl }
  free : ∀ b o, h.get? b = some o → H b = none → b ∉ ex → H' b = none
  there : ∀ b o, h.get? b = some o → b ∉ ex → ∃ o', h'.get? b = some o'
  tups : ∀ b xs, H b = some (.tup xs) → H' b = some (.tup xs)
  frzs : ∀ b o u, H b = some (.frz o u) → H' b = some (.frz o u)
  tbls : ∀ b ps, H b = some (.tbl ps) → ∃ more, H' b = some (.tbl (ps ++ more))
section
variable {fs fs' ex ex' : List Addr} {H H1 H2 : Hp} {h h1 h2 h' : Heap} {a x e : Addr} {o : HO}
theorem Un.any (u : Un fs ex H H1 h h1) {b : Addr} {ob : Obj} (q : h.get? b = some ob) (n : H b = none) (hx : b ∉ ex) : ∃ sl, h1.get? b = some { ob with slots := sl } := by
  by_cases hb : b ∈ fs
  · exact u.slot b ob q n hb hx
  · exact ⟨ob.slots, u.keep b ob q n hb hx⟩
theorem Un.kept (k : ∀ b u, h.get? b = some u → h'.get? b = some u) : Un fs ex H H h h' :=
  ⟨fun b ob q _ _ _ => k b ob q, fun b ob q _ _ _ => ⟨ob.slots, k b ob q⟩, fun _ _ _ n _ => n, fun b ob q _ => ⟨ob, k b ob q⟩, fun _ _ q => q, fun _ _ _ q => q, fun _ ps q => ⟨#[], by rw [q]; simp⟩⟩
theorem Un.refl : Un fs ex H H h h := Un.kept fun _ _ q => q
theorem Un.laid (k : ∀ b u, h.get? b = some u → h'.get? b = some u) (hp : h.objs.size ≤ a) (hn : H a = none) : Un fs ex H (upd H a o) h h' where
  keep := fun b u q _ _ _ => k b u q
  slot := fun b u q _ _ _ => ⟨u.slots, k b u q⟩
  free := fun b u q n _ => by rw [upd_ne (Nat.ne_of_lt (Nat.lt_of_lt_of_le (Heap.lt_size q) hp))]; exact n
  there := fun b u q _ => ⟨u, k b u q⟩
  tups := fun b xs q => by rw [upd_ne (ne_of_none q hn)]; exact q
  frzs := fun b u xs q => by rw [upd_ne (ne_of_none q hn)]; exact q
  tbls := fun b ps q => ⟨#[], by rw [upd_ne (ne_of_none q hn), q]; simp⟩
theorem Un.write (mu : Mut (H x)) (he : e = x ∨ H e = some (.own x)) (k : ∀ b u, b ≠ e → h.get? b = some u → h'.get? b = some u) (heo : ∃ u, h'.get? e = some u) : Un fs ex H (upd H x o) h h' := by
  have hx : ∀ b, H b = none → b ≠ x := fun b n z => by subst z; rw [n] at mu; exact mu
  have hb : ∀ b, H b = none → b ≠ e := fun b n z => by
    subst z
    rcases he with r | r
    · exact hx b n r
    · rw [n] at r; cases r
  have hm : ∀ b u, H b = some u → ¬ Mut (some u) → b ≠ x := fun b u q nm z => by subst z; rw [q] at mu; exact nm mu
  refine ⟨fun b u q n _ _ => k b u (hb b n) q, fun b u q n _ _ => ⟨u.slots, k b u (hb b n) q⟩, fun b u q n _ => by rw [upd_ne (hx b n)]; exact n, fun b u q _ => ?_,
    fun b xs q => by rw [upd_ne (hm b _ q fun z => z)]; exact q, fun b u xs q => by rw [upd_ne (hm b _ q fun z => z)]; exact q, fun b ps q => ⟨#[], by rw [upd_ne (hm b _ q fun z => z), q]; simp⟩⟩
  by_cases hbe : b = e
  · subst hbe; exact heo
  · exact ⟨u, k b u hbe q⟩
end
noncomputable def trk (h : Heap) (H : Hp) : List Addr := (List.range h.objs.size).filter fun a => (H a).isSome
noncomputable def hidT (h : Heap) (H : Hp) : Heap := PySem.W.hideAll h (trk h H)
theorem hidT_size (h : Heap) (H : Hp) : (hidT h H).objs.size = h.objs.size := PySem.W.hideAll_size _ _
theorem hidT_get {h : Heap} {H : Hp} {b : Addr} {o : Obj} (e : h.get? b = some o) (n : H b = none) : (hidT h H).get? b = some o :=
  PySem.W.hideAll_get _ e fun hm => by
    have q : (H b).isSome = true := (List.mem_filter.mp hm).2
    rw [n] at q; simp at q
theorem of_hidT {h : Heap} {H : Hp} {b : Addr} {o : Obj} (e : (hidT h H).get? b = some o) : h.get? b = some o ∧ H b = none := by
  have e' : h.get? b = some o := PySem.W.of_hideAll (trk h H) e
  refine ⟨e', ?_⟩
  cases q : H b with
  | none => rfl
  | some x =>
    have hm : b ∈ trk h H := List.mem_filter.mpr ⟨List.mem_range.mpr (Heap.lt_size e'), by simp [q]⟩
    have z : (hidT h H).get? b = none := PySem.W.hideAll_none (trk h H) hm
    rw [z] at e; cases e
end L2
namespace L2
open PySem PySem.Spec PyProof.Rows
structure Mod (K : PySem.W.Frag) (mg : Str → Option Value) (base : Heap) : Prop where
  kin : K.In base
  glob : base.Ns mainGlobals mg
  blt : ∃ mb, base.Ns builtinsNs mb ∧ ∀ x : Str, x ≠ "__name__" → mb x = bootBuiltins x
  nolimit : base.NoLimit
structure Cx where
  prog : Program
  w : World
  K : PySem.W.Frag
  mg : Str → Option Value
  base : Heap
  A : Around
  N : List Str
  s₀ : Shared
  H₀ : Hp
  env : Env
  outer : List Env
  stack : List Env
  ex : List Addr
  fn : Str → Bool
  calm : Bool
  pn : List (Addr × Obj)
  xe : Value → Shared → Prop
noncomputable def frs (l : List Env) : List Addr := l.filterMap (·.frame)
noncomputable abbrev Cx.fs (X : Cx) : List Addr := frs X.outer
noncomputable def Vis (sc : Scope) (x : Str) : Prop := sc.names.lookup x = some .local ∨ sc.names.lookup x = some .cell ∨ sc.names.lookup x = some .free
noncomputable def Loc (sc : Scope) (x : Str) : Prop := sc.names.lookup x = some .local ∨ sc.names.lookup x = some .cell
noncomputable def Look (env : Env) (h : Heap) (m : Str → Option Value) (x : Str) (u : Value) : Prop :=
  (env.kindOf x = some .local ∧ m x = some u) ∨ ((env.kindOf x = some .cell ∨ env.kindOf x = some .free) ∧ ∃ c, env.cells.lookup x = some c ∧ h.IsCell c (some u))
structure Cx.Ok (X : Cx) : Prop where
  mod : Mod X.K X.mg X.base
  kind : X.env.scope.kind = .function
  glob : X.env.globals = mainGlobals
  blt : X.env.builtins = builtinsNs
  above : X.s₀.heap.objs.size ≤ X.env.locals
  inj : ∀ x y c, X.env.cells.lookup x = some c → X.env.cells.lookup y = some c → x = y
  has : ∀ x, (X.env.kindOf x = some .cell ∨ X.env.kindOf x = some .free) → ∃ c, X.env.cells.lookup x = some c
  cab : ∀ x c, X.fn x = true → X.env.cells.lookup x = some c → X.s₀.heap.objs.size ≤ c
  hd : X.calm = true → X.A.handled = none
  frames : X.A.frames = some X.stack
  stk : X.stack = X.outer ∨ (X.stack = X.env :: X.outer ∧ X.env.frame = some X.env.locals)
  exf : ∀ b ∈ X.ex, b ≠ X.env.locals ∧ ∀ x c, X.env.cells.lookup x = some c → c ≠ b
  bs : ∀ b o, X.base.get? b = some o → X.s₀.heap.get? b = some o ∧ X.H₀ b = none
  bsz : X.base.objs.size ≤ X.s₀.heap.objs.size
  noex : ∀ b o, X.base.get? b = some o → b ∉ X.ex
  exfs : ∀ b ∈ X.ex, b ∉ X.fs
  funs : X.s₀.heap.FunFrames X.base X.outer
  frf : ∀ b ∈ X.fs, X.H₀ b = none
structure Inv (X : Cx) (pins : List (Addr × Obj)) (σ : List (Option V)) (H : Hp) (s : Shared) : Prop where
  ok : X.Ok
  os : s.os = X.s₀.os
  bare : AllBare s.gens
  base : Un X.fs X.ex X.H₀ H X.s₀.heap s.heap
  loc : ∃ m, s.heap.Ns X.env.locals m ∧ ∀ (i : Nat) (x : Str) (v : V), X.N[i]? = some x → σ[i]? = some (some v) → Vis X.env.scope x → ∃ u, RelV v u ∧ Look X.env s.heap m x u
  cell : ∀ x c, X.env.cells.lookup x = some c → ∃ v, s.heap.IsCell c v
  free : H X.env.locals = none
  freeC : ∀ x c, X.env.cells.lookup x = some c → H c = none
  pin : ∀ p ∈ X.pn ++ pins, s.heap.get? p.1 = some p.2 ∧ H p.1 = none ∧ p.1 ≠ X.env.locals ∧ p.1 ∉ X.fs ∧ ∀ v, p.2.data ≠ .cell v
  hok : HOk X.prog X.w H s.heap
  len : σ.length = X.N.length
section
variable {X : Cx} {pins : List (Addr × Obj)} {σ : List (Option V)} {H H' : Hp} {s : Shared} {h' : Heap}
theorem Cx.Ok.nofr (ok : X.Ok) {b : Addr} {o : Obj} (e : X.base.get? b = some o) : b ∉ X.fs := fun hb => by
  have := (ok.funs.mem hb).1
  rw [e] at this; cases this
theorem Inv.bs (I : Inv X pins σ H s) : ∀ b o, X.base.get? b = some o → s.heap.get? b = some o ∧ H b = none := fun b o e =>
  ⟨I.base.keep b o (I.ok.bs b o e).1 (I.ok.bs b o e).2 (I.ok.nofr e) (I.ok.noex b o e), I.base.free b o (I.ok.bs b o e).1 (I.ok.bs b o e).2 (I.ok.noex b o e)⟩
theorem Inv.bk (I : Inv X pins σ H s) : ∀ b o, X.base.get? b = some o → s.heap.get? b = some o := fun b o e => (I.bs b o e).1
theorem Inv.mod (I : Inv X pins σ H s) : Mod X.K X.mg X.base := I.ok.mod
theorem Inv.kIn (I : Inv X pins σ H s) : X.K.In s.heap := I.ok.mod.kin.keeps I.bk
theorem Inv.lt (I : Inv X pins σ H s) : X.env.locals < s.heap.objs.size := let ⟨_, hn, _⟩ := I.loc; hn.lt
theorem Inv.sz (I : Inv X pins σ H s) : X.s₀.heap.objs.size ≤ s.heap.objs.size := Nat.le_trans I.ok.above (Nat.le_of_lt I.lt)
theorem Inv.nofs (I : Inv X pins σ H s) {a : Addr} (h : s.heap.objs.size ≤ a) : a ∉ X.fs := fun hb => by
  obtain ⟨_, o, ho, _⟩ := I.ok.funs.mem hb
  exact absurd (Nat.lt_of_lt_of_le (Heap.lt_size ho) (Nat.le_trans I.sz h)) (Nat.lt_irrefl _)
theorem Inv.cne (I : Inv X pins σ H s) : ∀ x c, X.env.cells.lookup x = some c → c ≠ X.env.locals := fun x c e z => by
  obtain ⟨v, o, ho, hd⟩ := I.cell x c e
  obtain ⟨m, ⟨o', es, ep, ho', hd', _⟩, _⟩ := I.loc
  rw [z, ho'] at ho; cases ho; rw [hd'] at hd; cases hd
theorem Inv.funs (I : Inv X pins σ H s) : s.heap.FunFrames X.base X.outer := by
  have all : ∀ (l : List Env), (∀ b ∈ frs l, b ∈ X.fs) → X.s₀.heap.FunFrames X.base l → s.heap.FunFrames X.base l := by
    intro l
    induction l with
    | nil => intro _ _; trivial
    | cons env r ih =>
      intro hs hl
      obtain ⟨hk, ⟨L, o, hf, hn, ho, hd⟩, hr⟩ := hl
      have hL : L ∈ X.fs := hs L (by unfold frs; rw [List.filterMap_cons, hf]; exact List.mem_cons_self)
      obtain ⟨sl, e⟩ := I.base.slot L o ho (I.ok.frf L hL) hL fun z => I.ok.exfs L z hL
      exact ⟨hk, ⟨L, _, hf, hn, e, hd⟩, ih (fun b hb => hs b (by unfold frs; rw [List.filterMap_cons, hf]; exact List.mem_cons_of_mem _ hb)) hr⟩
  exact all X.outer (fun _ hb => hb) I.ok.funs
theorem Inv.stack (I : Inv X pins σ H s) : s.heap.FunFrames X.base X.stack := by
  rcases I.ok.stk with e | ⟨e, hf⟩
  · rw [e]; exact I.funs
  · rw [e]
    obtain ⟨m, hn, _⟩ := I.loc
    refine .cons (by rw [I.ok.kind]; decide) hf hn ?_ I.funs
    exact Heap.get?_none_of_le (Nat.le_trans I.ok.bsz I.ok.above)
theorem Inv.stkSub (I : Inv X pins σ H s) : ∀ b ∈ frs X.stack, b ∈ X.env.locals :: X.fs := fun b hb => by
  rcases I.ok.stk with e | ⟨e, hf⟩
  · rw [e] at hb; exact List.mem_cons_of_mem _ hb
  · rw [e] at hb
    unfold frs at hb
    rw [List.filterMap_cons, hf] at hb
    exact hb
theorem Inv.stkFree (I : Inv X pins σ H s) : ∀ b ∈ frs X.stack, H b = none := fun b hb => by
  rcases List.mem_cons.mp (I.stkSub b hb) with e | hb
  · rw [e]; exact I.free
  · obtain ⟨_, o, ho, _⟩ := I.ok.funs.mem hb
    exact I.base.free b o ho (I.ok.frf b hb) fun z => I.ok.exfs b z hb
theorem Inv.step {g' : Array GenState} {t' : Nat} {d' : Drawn} {ch : List Addr} (I : Inv X pins σ H s)
    (hch : ∀ b ∈ ch, (b ∈ X.ex ∨ X.s₀.heap.objs.size ≤ b) ∧ b ≠ X.env.locals ∧ (∀ x c, X.env.cells.lookup x = some c → c ≠ b) ∧ ∀ p ∈ X.pn ++ pins, p.1 ≠ b)
    (keep : ∀ b o, b ≠ X.env.locals → b ∉ X.fs → b ∉ ch → s.heap.get? b = some o → H b = none → h'.get? b = some o)
    (slot : ∀ b o, b ≠ X.env.locals → b ∈ X.fs → b ∉ ch → s.heap.get? b = some o → H b = none → ∃ sl, h'.get? b = some { o with slots := sl }) (free : ∀ b o, b ∉ ch → s.heap.get? b = some o → H b = none → H' b = none)
    (there : ∀ b o, b ∉ ch → s.heap.get? b = some o → ∃ o', h'.get? b = some o')
    (tups : ∀ b xs, H b = some (.tup xs) → H' b = some (.tup xs)) (frzs : ∀ b o u, H b = some (.frz o u) → H' b = some (.frz o u)) (tbls : ∀ b ps, H b = some (.tbl ps) → ∃ more, H' b = some (.tbl (ps ++ more)))
    (ns : ∀ m, s.heap.Ns X.env.locals m → h'.Ns X.env.locals m) (hok : HOk X.prog X.w H' h') (hg : AllBare g') :
    Inv X pins σ H' { s with heap := h', gens := g', drawn := d', toks := t' } := by
  have neL : ∀ b o, X.s₀.heap.get? b = some o → b ≠ X.env.locals := fun b o e => Nat.ne_of_lt (Nat.lt_of_lt_of_le (Heap.lt_size e) I.ok.above)
  have neC : ∀ b o, X.s₀.heap.get? b = some o → b ∉ X.ex → b ∉ ch := fun b o e hx hb => by
    rcases (hch b hb).1 with z | z
    · exact hx z
    · exact absurd (Nat.lt_of_lt_of_le (Heap.lt_size e) z) (Nat.lt_irrefl _)
  have cellK : ∀ x c, X.env.cells.lookup x = some c → ∀ v, s.heap.IsCell c v → h'.IsCell c v := fun x c e v ⟨o, ho, hd⟩ => by
    have nch : c ∉ ch := fun z => (hch c z).2.2.1 x c e rfl
    by_cases hc : c ∈ X.fs
    · obtain ⟨sl, q⟩ := slot c o (I.cne x c e) hc nch ho (I.freeC x c e)
      exact ⟨_, q, hd⟩
    · exact ⟨o, keep c o (I.cne x c e) hc nch ho (I.freeC x c e), hd⟩
  refine ⟨I.ok, I.os, hg, ⟨fun b o e n hb hx => ?_, fun b o e n hb hx => ?_, fun b o e n hx => ?_, fun b o e hx => ?_, fun b xs e => tups b xs (I.base.tups b xs e), fun b o xs e => frzs b o xs (I.base.frzs b o xs e), fun b ps e => ?_⟩, ?_, fun x c e => ?_, ?_, fun x c e => ?_, fun p hp => ?_, hok, I.len⟩
  · exact keep b o (neL b o e) hb (neC b o e hx) (I.base.keep b o e n hb hx) (I.base.free b o e n hx)
  · obtain ⟨sl, e1⟩ := I.base.slot b o e n hb hx
    obtain ⟨sl', e2⟩ := slot b _ (neL b o e) hb (neC b o e hx) e1 (I.base.free b o e n hx)
    exact ⟨sl', e2⟩
  · obtain ⟨o', e1⟩ := I.base.there b o e hx
    exact free b o' (neC b o e hx) e1 (I.base.free b o e n hx)
  · obtain ⟨o', e1⟩ := I.base.there b o e hx
    exact there b o' (neC b o e hx) e1
  · obtain ⟨m1, e1⟩ := I.base.tbls b ps e
    obtain ⟨m2, e2⟩ := tbls b _ e1
    exact ⟨m1 ++ m2, by rw [e2, Array.append_assoc]⟩
  · obtain ⟨m, hn, hl⟩ := I.loc
    refine ⟨m, ns m hn, fun i x v e1 e2 e3 => ?_⟩
    obtain ⟨u, r, l⟩ := hl i x v e1 e2 e3
    refine ⟨u, r, ?_⟩
    rcases l with l | ⟨k, c, e, z⟩
    · exact .inl l
    · exact .inr ⟨k, c, e, cellK x c e _ z⟩
  · obtain ⟨v, z⟩ := I.cell x c e
    exact ⟨v, cellK x c e v z⟩
  · obtain ⟨m, ⟨o, _, _, ho, _⟩, _⟩ := I.loc
    exact free _ o (fun z => (hch _ z).2.1 rfl) ho I.free
  · obtain ⟨v, o, ho, hd⟩ := I.cell x c e
    exact free c o (fun z => (hch c z).2.2.1 x c e rfl) ho (I.freeC x c e)
  · obtain ⟨e, n, ne, nf, d⟩ := I.pin p hp
    have nch : p.1 ∉ ch := fun z => (hch p.1 z).2.2.2 p hp rfl
    exact ⟨keep p.1 p.2 ne nf nch e n, free p.1 p.2 nch e n, ne, nf, d⟩
theorem Inv.un {t' : Nat} (I : Inv X pins σ H s) (u : Un X.fs [] H H' s.heap h') (hok : HOk X.prog X.w H' h') : Inv X pins σ H' { s with heap := h', toks := t' } := by
  obtain ⟨m, ⟨o, es, ep, ho, r⟩, _⟩ := id I.loc
  obtain ⟨sl, hL⟩ := u.any ho I.free (by simp)
  exact I.step (g' := s.gens) (d' := s.drawn) (ch := []) (fun _ z => nomatch z) (fun b o _ hb _ e n => u.keep b o e n hb (by simp)) (fun b o _ hb _ e n => u.slot b o e n hb (by simp)) (fun b o _ e n => u.free b o e n (by simp)) (fun b o _ e => u.there b o e (by simp)) u.tups u.frzs u.tbls (fun m' hm => by
    obtain ⟨o', es', ep', ho', r'⟩ := hm
    rw [ho] at ho'; cases ho'
    exact ⟨_, es', ep', hL, r'⟩) hok I.bare
theorem Inv.call {g' : Array GenState} {t' : Nat} {d' : Drawn} {ch : List Addr} (I : Inv X pins σ H s) (u : Un (frs X.stack) ch H H' s.heap h') (hok : HOk X.prog X.w H' h') (hg : AllBare g')
    (hch : ∀ b ∈ ch, (b ∈ X.ex ∨ X.s₀.heap.objs.size ≤ b) ∧ b ≠ X.env.locals ∧ (∀ x c, X.env.cells.lookup x = some c → c ≠ b) ∧ ∀ p ∈ X.pn ++ pins, p.1 ≠ b) :
    Inv X pins σ H' { s with heap := h', gens := g', drawn := d', toks := t' } := by
  obtain ⟨m, ⟨o, es, ep, ho, r⟩, _⟩ := id I.loc
  obtain ⟨sl, hL⟩ := u.any ho I.free fun z => (hch _ z).2.1 rfl
  exact I.step (ch := ch) hch (fun b o hL hb hc e n => u.keep b o e n (fun z => (List.mem_cons.mp (I.stkSub b z)).elim hL hb) hc) (fun b o _ _ hc e n => u.any e n hc) (fun b o hc e n => u.free b o e n hc) (fun b o hc e => u.there b o e hc) u.tups u.frzs u.tbls (fun m' hm => by
    obtain ⟨o', es', ep', ho', r'⟩ := hm
    rw [ho] at ho'; cases ho'
    exact ⟨_, es', ep', hL, r'⟩) hok hg
theorem Inv.turned {t' : Nat} {it : Addr} (I : Inv X pins σ H s) (k : ∀ b o, b ≠ it → s.heap.get? b = some o → h'.get? b = some o) (hn : H it = none) (hL : it ≠ X.env.locals)
    (h1 : it ∈ X.ex ∨ X.s₀.heap.objs.size ≤ it) (h2 : ∀ x c, X.env.cells.lookup x = some c → c ≠ it) (h3 : ∀ p ∈ X.pn ++ pins, p.1 ≠ it) : Inv X pins σ H { s with heap := h', toks := t' } := by
  have nit : ∀ b u, H b = some u → b ≠ it := fun b u e z => by rw [z, hn] at e; cases e
  refine I.step (g' := s.gens) (d' := s.drawn) (ch := [it]) (fun b hb => ?_) (fun b o _ _ hc e _ => k b o (fun z => hc (by simp [z])) e) (fun b o _ _ hc e _ => ⟨o.slots, k b o (fun z => hc (by simp [z])) e⟩) (fun _ _ _ _ n => n)
    (fun b o hc e => ⟨o, k b o (fun z => hc (by simp [z])) e⟩) (fun _ _ e => e) (fun _ _ _ e => e) (fun b ps e => ⟨#[], by rw [e]; simp⟩) (fun m hm => ?_) (fun b u e => ?_) I.bare
  · have e : b = it := by simpa using hb
    subst e
    exact ⟨h1, hL, h2, h3⟩
  · obtain ⟨o, es, ep, ho, r⟩ := hm
    exact ⟨o, es, ep, k _ o (Ne.symm hL) ho, r⟩
  · refine (I.hok b u e).stay (fun c v hc q => k c v ?_ q) (fun _ q => q) fun _ _ q => q
    rcases hc with z | z
    · rw [z]; exact nit b u e
    · exact nit c _ z
theorem Inv.tok (I : Inv X pins σ H s) (t : Nat) : Inv X pins σ H { s with toks := t } := I.un (h' := s.heap) (t' := t) Un.refl I.hok
theorem Inv.kept {t' : Nat} (I : Inv X pins σ H s) (k : ∀ b u, s.heap.get? b = some u → h'.get? b = some u) : Inv X pins σ H { s with heap := h', toks := t' } := I.un (Un.kept k) (I.hok.kept k)
theorem Inv.laid {a : Addr} {o : HO} {t' : Nat} (I : Inv X pins σ H s) (k : ∀ b u, s.heap.get? b = some u → h'.get? b = some u) (hp : s.heap.objs.size ≤ a) (new : ObjOk X.prog X.w (upd H a o) h' a o) :
    Inv X pins σ (upd H a o) { s with heap := h', toks := t' } := I.un (Un.laid k hp (I.hok.fresh hp)) (I.hok.laid k hp new)
theorem Inv.write {x e : Addr} {o : HO} {t' : Nat} (I : Inv X pins σ H s) (mu : Mut (H x)) (he : e = x ∨ H e = some (.own x)) (k : ∀ b u, b ≠ e → s.heap.get? b = some u → h'.get? b = some u) (heo : ∃ u, h'.get? e = some u)
    (new : ObjOk X.prog X.w (upd H x o) h' x o) : Inv X pins σ (upd H x o) { s with heap := h', toks := t' } := I.un (Un.write mu he k heo) (I.hok.write mu he k heo new)
theorem Inv.pins_of {pins' : List (Addr × Obj)} (I : Inv X pins σ H s) (h : ∀ p ∈ pins', s.heap.get? p.1 = some p.2 ∧ H p.1 = none ∧ p.1 ≠ X.env.locals ∧ p.1 ∉ X.fs ∧ ∀ v, p.2.data ≠ .cell v) : Inv X pins' σ H s :=
  ⟨I.ok, I.os, I.bare, I.base, I.loc, I.cell, I.free, I.freeC, fun p hp => (List.mem_append.mp hp).elim (fun z => I.pin p (List.mem_append_left _ z)) (h p), I.hok, I.len⟩
theorem nodup_ix {N : List Str} (hN : N.Nodup) {i j : Nat} {x : Str} (a : N[i]? = some x) (b : N[j]? = some x) : i = j := by
  obtain ⟨h1, e1⟩ := List.getElem?_eq_some_iff.mp a
  obtain ⟨h2, e2⟩ := List.getElem?_eq_some_iff.mp b
  exact (List.getElem_inj hN).mp (e1.trans e2.symm)
theorem store_ok2 {M : Model} {A : Around} {E : Value → Shared → Prop} {i : Nat} {x : Str} {v : V} {u : Value} {Q : Unit → Shared → Prop} (I : Inv X pins σ H s) (hN : X.N.Nodup) (hi : X.N[i]? = some x) (hx : Loc X.env.scope x) (r : RelV v u)
    (h : ∀ s', Inv X pins (σ.set i (some v)) H s' → (∃ a, Heap.SameBut a s.heap s'.heap ∧ (a = X.env.locals ∨ X.env.cells.lookup x = some a)) → Q () s') (hf : X.fn x = true ∨ X.env.scope.names.lookup x = some .local := by first | exact .inl rfl | exact .inr rfl | assumption) : wpAny M A (storeName X.env x u) Q E s := by
  obtain ⟨m, hn, hl⟩ := id I.loc
  have hcls : (X.env.scope.kind == .class || (X.env.scope.kind == .module && X.env.locals != X.env.globals)) = false := by rw [I.ok.kind]; rfl
  have hiσ : i < σ.length := by rw [I.len]; exact (List.getElem?_eq_some_iff.mp hi).1
  have cne := I.cne
  have tracked : ∀ {a : Addr} {h' : Heap}, (∃ o, s.heap.get? a = some o ∧ H a = none) → Heap.SameBut a s.heap h' → HOk X.prog X.w H h' := fun {a h'} ha hs b ob e => by
    obtain ⟨_, _, hfree⟩ := ha
    refine (I.hok b ob e).stay (fun c w' hc q => (hs.2 c ?_).trans q) (fun _ q => q) fun _ _ q => q
    rintro rfl
    rcases hc with rfl | hc
    · rw [hfree] at e; cases e
    · rw [hfree] at hc; cases hc
  rcases hx with hk | hk
  · refine wpAny_storeName_local hk hn (fun h' hn' hs => ?_) hcls
    obtain ⟨oL, _, _, hoL, _⟩ := id hn
    refine h _ ⟨I.ok, I.os, I.bare, ⟨fun b o e n hb hx => ?_, fun b o e n hb hx => ?_, I.base.free, fun b o e hx => ?_, I.base.tups, I.base.frzs, I.base.tbls⟩, ⟨_, hn', fun j y v' e1 e2 e3 => ?_⟩, fun y c e => ?_, I.free, I.freeC, fun p hp => ?_, tracked ⟨oL, hoL, I.free⟩ hs, by simpa using I.len⟩ ⟨_, hs, .inl rfl⟩
    · exact (hs.2 b (Nat.ne_of_lt (Nat.lt_of_lt_of_le (Heap.lt_size e) I.ok.above))).trans (I.base.keep b o e n hb hx)
    · obtain ⟨sl, e1⟩ := I.base.slot b o e n hb hx
      exact ⟨sl, (hs.2 b (Nat.ne_of_lt (Nat.lt_of_lt_of_le (Heap.lt_size e) I.ok.above))).trans e1⟩
    · obtain ⟨o', e1⟩ := I.base.there b o e hx
      exact ⟨o', (hs.2 b (Nat.ne_of_lt (Nat.lt_of_lt_of_le (Heap.lt_size e) I.ok.above))).trans e1⟩
    · by_cases hj : j = i
      · subst hj
        rw [hi] at e1; cases e1
        rw [List.getElem?_set_self hiσ] at e2
        cases e2
        exact ⟨u, r, .inl ⟨hk, by simp⟩⟩
      · rw [List.getElem?_set_ne (Ne.symm hj)] at e2
        obtain ⟨u', r', q⟩ := hl j y v' e1 e2 e3
        refine ⟨u', r', ?_⟩
        rcases q with ⟨k, e⟩ | ⟨k, c, e, z⟩
        · refine .inl ⟨k, ?_⟩
          have : y ≠ x := fun e => hj (nodup_ix hN e1 (e ▸ hi))
          simp [this, e]
        · exact .inr ⟨k, c, e, z.sameBut hs (cne y c e)⟩
    · obtain ⟨w', z⟩ := I.cell y c e
      exact ⟨w', z.sameBut hs (cne y c e)⟩
    · obtain ⟨e, n, ne, nf, d⟩ := I.pin p hp
      exact ⟨(hs.2 p.1 ne).trans e, n, ne, nf, d⟩
  · have hfn : X.fn x = true := by
      rcases hf with z | z
      · exact z
      · rw [z] at hk; cases hk
    obtain ⟨c, hc⟩ := I.ok.has x (.inl hk)
    obtain ⟨w', z⟩ := I.cell x c hc
    refine wpAny_storeName_cell I.ok.kind hk hc z (fun h' hc' hs => ?_)
    obtain ⟨oc, hoc, hocd⟩ := id z
    refine h { s with heap := h' } ⟨I.ok, I.os, I.bare, ⟨fun b o e n hb hx => ?_, fun b o e n hb hx => ?_, I.base.free, fun b o e hx => ?_, I.base.tups, I.base.frzs, I.base.tbls⟩, ⟨m, hn.sameBut hs (Ne.symm (cne x c hc)), fun j y v' e1 e2 e3 => ?_⟩, fun y c' e => ?_, I.free, I.freeC, fun p hp => ?_, tracked ⟨oc, hoc, I.freeC x c hc⟩ hs, by simpa using I.len⟩ ⟨c, hs, .inr hc⟩
    · exact (hs.2 b (Nat.ne_of_lt (Nat.lt_of_lt_of_le (Heap.lt_size e) (I.ok.cab x c hfn hc)))).trans (I.base.keep b o e n hb hx)
    · obtain ⟨sl, e1⟩ := I.base.slot b o e n hb hx
      exact ⟨sl, (hs.2 b (Nat.ne_of_lt (Nat.lt_of_lt_of_le (Heap.lt_size e) (I.ok.cab x c hfn hc)))).trans e1⟩
    · obtain ⟨o', e1⟩ := I.base.there b o e hx
      exact ⟨o', (hs.2 b (Nat.ne_of_lt (Nat.lt_of_lt_of_le (Heap.lt_size e) (I.ok.cab x c hfn hc)))).trans e1⟩
    · by_cases hj : j = i
      · subst hj
        rw [hi] at e1; cases e1
        rw [List.getElem?_set_self hiσ] at e2
        cases e2
        exact ⟨u, r, .inr ⟨.inl hk, c, hc, hc'⟩⟩
      · rw [List.getElem?_set_ne (Ne.symm hj)] at e2
        obtain ⟨u', r', q⟩ := hl j y v' e1 e2 e3
        refine ⟨u', r', ?_⟩
        rcases q with q | ⟨k, c', e, z'⟩
        · exact .inl q
        · refine .inr ⟨k, c', e, z'.sameBut hs ?_⟩
          rintro rfl
          exact hj (nodup_ix hN e1 (I.ok.inj _ _ _ e hc ▸ hi))
    · by_cases hcc : c' = c
      · subst hcc; exact ⟨_, hc'⟩
      · obtain ⟨w2, z2⟩ := I.cell y c' e
        exact ⟨w2, z2.sameBut hs hcc⟩
    · obtain ⟨e, n, ne, nf, d⟩ := I.pin p hp
      refine ⟨(hs.2 p.1 ?_).trans e, n, ne, nf, d⟩
      intro q
      rw [q, hoc] at e
      have q' : oc = p.2 := Option.some.inj e
      exact d w' (by rw [← q']; exact hocd)
theorem store_ok {M : Model} {A : Around} {E : Value → Shared → Prop} {i : Nat} {x : Str} {v : V} {u : Value} {Q : Unit → Shared → Prop} (I : Inv X pins σ H s) (hN : X.N.Nodup) (hi : X.N[i]? = some x) (hx : Loc X.env.scope x) (r : RelV v u)
    (h : ∀ s', Inv X pins (σ.set i (some v)) H s' → Q () s') (hf : X.fn x = true ∨ X.env.scope.names.lookup x = some .local := by first | exact .inl rfl | exact .inr rfl | assumption) : wpAny M A (storeName X.env x u) Q E s :=
  store_ok2 I hN hi hx r (fun s' I' _ => h s' I') hf
theorem Inv.call' {s' : Shared} {ch : List Addr} (I : Inv X pins σ H s) (ho : s'.os = s.os) (u : Un (frs X.stack) ch H H' s.heap s'.heap) (hok : HOk X.prog X.w H' s'.heap) (hg : AllBare s'.gens)
    (hch : ∀ b ∈ ch, (b ∈ X.ex ∨ X.s₀.heap.objs.size ≤ b) ∧ b ≠ X.env.locals ∧ (∀ x c, X.env.cells.lookup x = some c → c ≠ b) ∧ ∀ p ∈ X.pn ++ pins, p.1 ≠ b) : Inv X pins σ H' s' := by
  obtain ⟨h', g', d', t', o'⟩ := s'
  have e : o' = s.os := ho
  subst e
  exact I.call (g' := g') (t' := t') (d' := d') u hok hg hch
end
noncomputable abbrev XK := Value → Option Addr → Hp → Prop
noncomputable abbrev St := List (Option V)
noncomputable abbrev VK := V → Hp → Prop
noncomputable abbrev TE := St → Hp → VK → Prop
noncomputable abbrev TT := St → Hp → (Bool → Hp → Prop) → Prop
noncomputable abbrev TA := St → Hp → (List V → Hp → Prop) → Prop
structure Ends where
  nx : St → Hp → Prop
  rt : VK
  bk : St → Hp → Prop := fun _ _ => False
  ct : St → Hp → Prop := fun _ _ => False
noncomputable abbrev TS := Ends → St → Hp → Prop
noncomputable def EP (X : Cx) (pins : List (Addr × Obj)) (σ : St) (Q : VK) (u : Value) (s' : Shared) : Prop := ∃ v H', Inv X pins σ H' s' ∧ RelV v u ∧ Q v H'
noncomputable def TP (X : Cx) (pins : List (Addr × Obj)) (σ : St) (Q : Bool → Hp → Prop) (b : Bool) (s' : Shared) : Prop := ∃ H', Inv X pins σ H' s' ∧ Q b H'
noncomputable def AP (X : Cx) (pins : List (Addr × Obj)) (σ : St) (Q : List V → Hp → Prop) (us : List Value) (s' : Shared) : Prop := ∃ vs H', Inv X pins σ H' s' ∧ Vals vs us ∧ Q vs H'
noncomputable def SP (X : Cx) (pins : List (Addr × Obj)) (D : Ends) (f : Flow) (s' : Shared) : Prop :=
  match f with
  | .next => ∃ σ' H', Inv X pins σ' H' s' ∧ D.nx σ' H'
  | .brk => ∃ σ' H', Inv X pins σ' H' s' ∧ D.bk σ' H'
  | .cont => ∃ σ' H', Inv X pins σ' H' s' ∧ D.ct σ' H'
  | .ret u => ∃ v σ' H', Inv X pins σ' H' s' ∧ RelV v u ∧ D.rt v H'
noncomputable def PE (X : Cx) (e : Expr) (t : TE) : Prop :=
  ∀ (pins : List (Addr × Obj)) (s : Shared) (σ : St) (H : Hp) (Q : VK), Inv X pins σ H s → t σ H Q → wpAny (model X.prog X.w) X.A (eval e X.env) (EP X pins σ Q) X.xe s
noncomputable def PT (X : Cx) (e : Expr) (t : TT) : Prop :=
  ∀ (pins : List (Addr × Obj)) (s : Shared) (σ : St) (H : Hp) (Q : Bool → Hp → Prop), Inv X pins σ H s → t σ H Q → wpAny (model X.prog X.w) X.A (isTrue e X.env (eval e X.env)) (TP X pins σ Q) X.xe s
noncomputable def PW (X : Cx) (e : Expr) (t : TT) : Prop :=
  ∀ (whole : Sem Value) (pins : List (Addr × Obj)) (s : Shared) (σ : St) (H : Hp) (Q : Bool → Hp → Prop), Inv X pins σ H s → t σ H Q → wpAny (model X.prog X.w) X.A (isTrue e X.env whole) (TP X pins σ Q) X.xe s
theorem PW.pt {X : Cx} {e : Expr} {t : TT} (h : PW X e t) : PT X e t := h _
noncomputable def PA (X : Cx) (es : List Expr) (t : TA) : Prop :=
  ∀ (pos : Pos) (pins : List (Addr × Obj)) (s : Shared) (σ : St) (H : Hp) (Q : List V → Hp → Prop), Inv X pins σ H s → t σ H Q → wpAny (model X.prog X.w) X.A (spliced (backTo pos (starEach es X.env))) (AP X pins σ Q) X.xe s
noncomputable def PS (X : Cx) (st : Stmt) (t : TS) : Prop :=
  ∀ (pins : List (Addr × Obj)) (s : Shared) (σ : St) (H : Hp) (D : Ends), Inv X pins σ H s → t D σ H → wpAny (model X.prog X.w) X.A (exec st X.env) (SP X pins D) X.xe s
noncomputable def PSs (X : Cx) (st : List Stmt) (t : TS) : Prop :=
  ∀ (pins : List (Addr × Obj)) (s : Shared) (σ : St) (H : Hp) (D : Ends), Inv X pins σ H s → t D σ H → wpAny (model X.prog X.w) X.A (execs st X.env) (SP X pins D) X.xe s
theorem thn {α : Type} {t : Sem α} {Q Q' : α → Shared → Prop} {M : Model} {A : Around} {E : Value → Shared → Prop} {s : Shared} (h : wpAny M A t Q E s) (hQ : ∀ a s, Q a s → Q' a s) : wpAny M A t Q' E s := wpAny_mono h hQ fun _ _ x => x
end L2
namespace L2
open PySem PySem.Spec PyProof.Rows
section
variable {X : Cx}
noncomputable def tVar (i : Nat) : TE := fun σ H Q => ∃ v, σ[i]? = some (some v) ∧ Q v H
noncomputable def tC (v : V) : TE := fun _ H Q => Q v H
theorem pe_var {i : Nat} {x : Str} {pos : Pos} (hN : X.N[i]? = some x) (hv : Vis X.env.scope x) (hd : (x == ("__debug__" : Str)) = false := by decide) (hcd : (x == ("__classdict__" : Str)) = false := by decide) : PE X (.Name x pos) (tVar i) := by
  intro pins s σ H Q I h
  obtain ⟨v, e, h⟩ := h
  obtain ⟨m, hn, hl⟩ := I.loc
  obtain ⟨u, r, l⟩ := hl i x v hN e hv
  have fin : EP X pins σ Q u s := ⟨v, H, I, r, h⟩
  rcases l with ⟨hk, hm⟩ | ⟨hk, c, hc, hcell⟩
  · exact wpAny_Name (wpAny_loadName_local I.ok.kind hk hn hm fin) hd
  · rcases hk with hk | hk
    · exact wpAny_Name (wpAny_loadName_cell I.ok.kind hk hc hcell fin) hd
    · exact wpAny_Name (wpAny_loadName_free I.ok.kind hk hc hcell fin hcd) hd
theorem pe_int {i j pos} : PE X (.Constant (.int i) j pos) (tC (.int i)) := fun _ _ _ H _ I h => wpAny_Constant_int ⟨.int i, H, I.tok _, ⟨_, rfl⟩, h⟩
theorem pe_bl {b j pos} : PE X (.Constant (.bool b) j pos) (tC (.bl b)) := fun _ _ _ H _ I h => Constant_bool ⟨.bl b, H, I, rfl, h⟩
theorem pe_non {j pos} : PE X (.Constant .none j pos) (tC .non) := fun _ _ _ H _ I h => Constant_none ⟨.non, H, I, rfl, h⟩
theorem pe_str {x j pos} : PE X (.Constant (.str x) j pos) (tC (.str x)) := fun _ _ _ H _ I h => Calls.Constant_str ⟨.str x, H, I.tok _, ⟨_, rfl⟩, h⟩
noncomputable def Gl (X : Cx) (x : Str) : Prop := X.env.kindOf x = some .globalImplicit
theorem ld_glob {E : Value → Shared → Prop} {pins : List (Addr × Obj)} {s : Shared} {σ : St} {H : Hp} {x : Str} {u : Value} {pos : Pos} {Q : Value → Shared → Prop} (I : Inv X pins σ H s) (hg : Gl X x) (hm : X.mg x = some u) (h : Q u s)
    (hd : (x == ("__debug__" : Str)) = false := by decide) : wpAny (model X.prog X.w) X.A (eval (.Name x pos) X.env) Q E s :=
  Calls.Name_function_global I.ok.kind hg (Calls.loadGlobal_global (by rw [I.ok.glob]; exact I.mod.glob.keeps I.bk) hm h) hd
theorem ld_blt {E : Value → Shared → Prop} {pins : List (Addr × Obj)} {s : Shared} {σ : St} {H : Hp} {x : Str} {u : Value} {pos : Pos} {Q : Value → Shared → Prop} (I : Inv X pins σ H s) (hg : Gl X x) (hm : X.mg x = none) (hv : bootBuiltins x = some u) (h : Q u s)
    (hn : x ≠ "__name__" := by decide) (hd : (x == ("__debug__" : Str)) = false := by decide) : wpAny (model X.prog X.w) X.A (eval (.Name x pos) X.env) Q E s := by
  obtain ⟨mb, h1, h2⟩ := I.mod.blt
  exact Calls.Name_function_global I.ok.kind hg (Calls.loadGlobal_builtin (by rw [I.ok.glob]; exact I.mod.glob.keeps I.bk) hm (by rw [I.ok.blt]; exact h1.keeps I.bk) ((h2 x hn).trans hv) h) hd
theorem pe_glob {x : Str} {v : V} {u : Value} {pos : Pos} (hg : Gl X x) (hm : X.mg x = some u) (r : RelV v u) (hd : (x == ("__debug__" : Str)) = false := by decide) : PE X (.Name x pos) (tC v) :=
  fun _ _ _ H _ I h => ld_glob I hg hm ⟨v, H, I, r, h⟩ hd
theorem pe_bltn {x : Str} {v : V} {u : Value} {pos : Pos} (hg : Gl X x) (hm : X.mg x = none) (hv : bootBuiltins x = some u) (r : RelV v u) (hn : x ≠ "__name__" := by decide) (hd : (x == ("__debug__" : Str)) = false := by decide) : PE X (.Name x pos) (tC v) :=
  fun _ _ _ H _ I h => ld_blt I hg hm hv ⟨v, H, I, r, h⟩ hn hd
variable {a b : Expr} {ta tb : TE} {pos : Pos}
noncomputable def tB (t : TE) : TT := fun σ H Q => t σ H fun x H1 => ∃ c, x = .bl c ∧ Q c H1
theorem pt_val {e : Expr} {t : TE} (h : PE X e t) (he : ∀ whole, isTrue e X.env whole = (do let v ← whole; standAt e.pos; holding [v] (truthy v)) := by intro _; rfl) : PT X e (tB t) := by
  intro pins s σ H Q I hw
  refine isTrue_plain (thn (h pins s σ H _ I hw) fun v s1 ⟨x, H1, I1, r1, q1⟩ => ?_) (he _)
  obtain ⟨d, rfl, q⟩ := q1
  cases r1
  exact wpAny_truthy_bool ⟨H1, I1, q⟩
variable {tA tB' : TT} {rest : List Expr}
noncomputable def tAnd (t u : TT) : TT := fun σ H Q => t σ H fun c H1 => if c = true then u σ H1 Q else Q false H1
noncomputable def tOr (t u : TT) : TT := fun σ H Q => t σ H fun c H1 => if c = true then Q true H1 else u σ H1 Q
noncomputable def tNot (t : TT) : TT := fun σ H Q => t σ H fun c H1 => Q (!c) H1
theorem pw_and1 (ha : PT X a tA) : PW X (.BoolOp .And [a] pos) tA := by
  intro wh pins s σ H Q I h
  refine isTrue_and (thn (ha pins s σ H Q I h) fun c s1 e => ?_)
  cases c with
  | true => exact isTrue_and_nil e
  | false => exact e
theorem pw_or1 (ha : PT X a tA) : PW X (.BoolOp .Or [a] pos) tA := by
  intro wh pins s σ H Q I h
  refine isTrue_or (thn (ha pins s σ H Q I h) fun c s1 e => ?_)
  cases c with
  | false => exact isTrue_or_nil e
  | true => exact e
theorem pw_and (ha : PT X a tA) (hb : PW X (.BoolOp .And (b :: rest) pos) tB') : PW X (.BoolOp .And (a :: b :: rest) pos) (tAnd tA tB') := by
  intro wh pins s σ H Q I h
  refine isTrue_and (thn (ha pins s σ H _ I h) fun c s1 ⟨H1, I1, q1⟩ => ?_)
  cases c with
  | true => exact hb wh pins s1 σ H1 Q I1 q1
  | false => exact ⟨H1, I1, q1⟩
theorem pw_or (ha : PT X a tA) (hb : PW X (.BoolOp .Or (b :: rest) pos) tB') : PW X (.BoolOp .Or (a :: b :: rest) pos) (tOr tA tB') := by
  intro wh pins s σ H Q I h
  refine isTrue_or (thn (ha pins s σ H _ I h) fun c s1 ⟨H1, I1, q1⟩ => ?_)
  cases c with
  | true => exact ⟨H1, I1, q1⟩
  | false => exact hb wh pins s1 σ H1 Q I1 q1
theorem pt_not (ha : PT X a tA) : PT X (.UnaryOp .Not a pos) (tNot tA) := by
  intro pins s σ H Q I h
  exact isTrue_not (ha pins s σ H (fun c H1 => Q (!c) H1) I h)
noncomputable def tAndV (ta tb : TE) : TE := fun σ H Q => ta σ H fun x H1 => ∃ c, x = .bl c ∧ if c = true then tb σ H1 Q else Q (.bl false) H1
noncomputable def tNotV (ta : TE) : TE := fun σ H Q => ta σ H fun x H1 => ∃ c, x = .bl c ∧ Q (.bl (!c)) H1
theorem pe_one {op} {t : TE} (h : PE X a t) : PE X (.BoolOp op [a] pos) t := fun pins s σ H Q I hw => BoolOp_one (h pins s σ H Q I hw)
theorem pe_and (ha : PE X a ta) (hb : PE X (.BoolOp .And (b :: rest) pos) tb) : PE X (.BoolOp .And (a :: b :: rest) pos) (tAndV ta tb) := by
  intro pins s σ H Q I h
  refine BoolOp_and (thn (ha pins s σ H _ I h) fun v s1 ⟨x, H1, I1, r1, q1⟩ => ?_)
  obtain ⟨c, rfl, q1⟩ := q1
  cases r1
  refine wpAny_truthy_bool ?_
  cases c with
  | true => exact hb pins s1 σ H1 Q I1 q1
  | false => exact ⟨.bl false, H1, I1, rfl, q1⟩
theorem pe_not (ha : PE X a ta) : PE X (.UnaryOp .Not a pos) (tNotV ta) := by
  intro pins s σ H Q I h
  refine UnaryOp_ (thn (ha pins s σ H _ I h) fun v s1 ⟨x, H1, I1, r1, q1⟩ => ?_)
  obtain ⟨c, rfl, q1⟩ := q1
  cases r1
  exact not_of (wpAny_truthy_bool ⟨.bl (!c), H1, I1, rfl, q1⟩)
noncomputable def tIf (t : TT) (ta tb : TE) : TE := fun σ H Q => t σ H fun c H1 => if c = true then ta σ H1 Q else tb σ H1 Q
end
end L2
namespace L2
open PySem PySem.Spec PyProof.Rows
noncomputable def SqL (K : PySem.W.Frag) (H : Hp) (a : Addr) (xs : List V) : Prop :=
  Rd H a (.lst xs) ∨
    ∃ (o : Obj) (its : Array Value) (n : Nat), K.lookup a = some o ∧ o.cls = .type "list" ∧ o.dict = none ∧ o.data = .seq its n ∧ its.size ≤ sizeLine ∧ Vals xs its.toList
noncomputable def SqT (K : PySem.W.Frag) (H : Hp) (a : Addr) (xs : List V) : Prop :=
  Rd H a (.tup xs) ∨
    ∃ (o : Obj) (its : Array Value) (n : Nat), K.lookup a = some o ∧ o.cls = .type "tuple" ∧ o.data = .seq its n ∧ its.size ≤ sizeLine ∧ Vals xs its.toList
noncomputable def absV : Value → Option V
  | .none => some .non
  | .bool b => some (.bl b)
  | .int i _ => some (.int i)
  | .str x _ => some (.str x)
  | .bytes b _ => some (.byt b)
  | .float b _ => some (.flt b)
  | .ref a => some (.ref a)
  | .type n => some (.ty n)
  | _ => none
theorem RelV.abs {x : V} {u : Value} (r : RelV x u) : absV u = some x := by
  cases x with
  | non => cases r; rfl
  | bl _ => cases r; rfl
  | int _ => obtain ⟨t, rfl⟩ := r; rfl
  | str _ => obtain ⟨t, rfl⟩ := r; rfl
  | byt _ => obtain ⟨t, rfl⟩ := r; rfl
  | flt _ => obtain ⟨t, rfl⟩ := r; rfl
  | ref _ => cases r; rfl
  | ty _ => cases r; rfl
theorem RelV.inj {x y : V} {u : Value} (r : RelV x u) (q : RelV y u) : x = y := Option.some.inj (r.abs.symm.trans q.abs)
theorem Vals.inj : ∀ {xs ys : List V} {us : List Value}, Vals xs us → Vals ys us → xs = ys
  | _, _, _, .nil, .nil => rfl
  | _, _, _, .cons r t, .cons r' t' => by rw [r.inj r', Vals.inj t t']
section
variable {X : Cx} {pins : List (Addr × Obj)} {σ : St} {H : Hp} {s : Shared} {a : Addr} {xs ys : List V}
theorem SqL.of {K : PySem.W.Frag} (h : H a = some (.lst xs)) : SqL K H a xs := .inl (.inl h)
theorem SqT.of {K : PySem.W.Frag} (h : H a = some (.tup xs)) : SqT K H a xs := .inl (.inl h)
theorem Inv.list (I : Inv X pins σ H s) (h : SqL X.K H a xs) : ∃ its : List Value, Vals xs its ∧ PlainL s.heap a its.toArray ∧ xs.length ≤ sizeLine := by
  rcases h with h | ⟨o, its, n, hk, hc, hd, hs, hz, r⟩
  · obtain ⟨z, its, n, r, e⟩ := h.ok I.hok
    exact ⟨its, r, ⟨_, n, e, rfl, rfl, rfl⟩, z⟩
  · refine ⟨its.toList, r, ⟨o, n, I.kIn a o hk, hc, hd, by simpa using hs⟩, ?_⟩
    have e := r.length
    simp only [Array.length_toList] at e
    omega
theorem Inv.tuple (I : Inv X pins σ H s) (h : SqT X.K H a xs) : ∃ its : List Value, Vals xs its ∧ IsTup s.heap a its.toArray ∧ xs.length ≤ sizeLine := by
  rcases h with h | ⟨o, its, n, hk, hc, hs, hz, r⟩
  · obtain ⟨z, its, r, p⟩ := h.ok I.hok
    exact ⟨its, r, p, z⟩
  · refine ⟨its.toList, r, ⟨o, I.kIn a o hk, hc, n, by simpa using hs⟩, ?_⟩
    have e := r.length
    simp only [Array.length_toList] at e
    omega
theorem Inv.list_inj (I : Inv X pins σ H s) (h : SqL X.K H a xs) (h' : SqL X.K H a ys) : xs = ys := by
  obtain ⟨its, r, ⟨o, n, e, _, _, d⟩, _⟩ := I.list h
  obtain ⟨its', r', ⟨o', n', e', _, _, d'⟩, _⟩ := I.list h'
  rw [e] at e'; cases e'
  rw [d] at d'
  injection d' with d1 _
  have : its = its' := by simpa using congrArg Array.toList d1
  subst this
  exact r.inj r'
theorem Inv.tuple_inj (I : Inv X pins σ H s) (h : SqT X.K H a xs) (h' : SqT X.K H a ys) : xs = ys := by
  obtain ⟨its, r, ⟨o, e, _, n, d⟩, _⟩ := I.tuple h
  obtain ⟨its', r', ⟨o', e', _, n', d'⟩, _⟩ := I.tuple h'
  rw [e] at e'; cases e'
  rw [d] at d'
  injection d' with d1 _
  have : its = its' := by simpa using congrArg Array.toList d1
  subst this
  exact r.inj r'
end
noncomputable abbrev Cx.wish (X : Cx) (E : Value → Shared → Prop) : Cx := { X with xe := E }
noncomputable abbrev Cx.nox (X : Cx) : Cx := X.wish fun _ _ => False
theorem Cx.Ok.wish {X : Cx} (ok : X.Ok) (E : Value → Shared → Prop) : (X.wish E).Ok :=
  ⟨ok.mod, ok.kind, ok.glob, ok.blt, ok.above, ok.inj, ok.has, ok.cab, ok.hd, ok.frames, ok.stk, ok.exf, ok.bs, ok.bsz, ok.noex, ok.exfs, ok.funs, ok.frf⟩
theorem Cx.Ok.unwish {X : Cx} {E : Value → Shared → Prop} (ok : (X.wish E).Ok) : X.Ok :=
  ⟨ok.mod, ok.kind, ok.glob, ok.blt, ok.above, ok.inj, ok.has, ok.cab, ok.hd, ok.frames, ok.stk, ok.exf, ok.bs, ok.bsz, ok.noex, ok.exfs, ok.funs, ok.frf⟩
section
variable {X : Cx} {pins : List (Addr × Obj)} {σ : St} {H : Hp} {s : Shared} {E : Value → Shared → Prop}
theorem Inv.wish (I : Inv X pins σ H s) (E : Value → Shared → Prop) : Inv (X.wish E) pins σ H s := ⟨I.ok.wish E, I.os, I.bare, I.base, I.loc, I.cell, I.free, I.freeC, I.pin, I.hok, I.len⟩
theorem Inv.unwish (I : Inv (X.wish E) pins σ H s) : Inv X pins σ H s := ⟨I.ok.unwish, I.os, I.bare, I.base, I.loc, I.cell, I.free, I.freeC, I.pin, I.hok, I.len⟩
theorem SP.unwish {D : Ends} {f : Flow} {s' : Shared} (h : SP (X.wish E) pins D f s') : SP X pins D f s' := by
  cases f with
  | next => obtain ⟨σ', H', I, q⟩ := h; exact ⟨σ', H', I.unwish, q⟩
  | brk => obtain ⟨σ', H', I, q⟩ := h; exact ⟨σ', H', I.unwish, q⟩
  | cont => obtain ⟨σ', H', I, q⟩ := h; exact ⟨σ', H', I.unwish, q⟩
  | ret u => obtain ⟨v, σ', H', I, r, q⟩ := h; exact ⟨v, σ', H', I.unwish, r, q⟩
theorem PSs.nox {st : List Stmt} {t : TS} (h : PSs X.nox st t) : PSs X st t := fun pins s σ H D I hw =>
  wpAny_mono (h pins s σ H D (I.wish _) hw) (fun _ _ q => q.unwish) fun _ _ z => False.elim z
end
section
variable {X : Cx} {st : Stmt} {rest : List Stmt} {t u : TS} {e : Expr} {te : TE} {pos : Pos}
noncomputable def tNext : TS := fun D σ H => D.nx σ H
noncomputable def tSeq (t u : TS) : TS := fun D σ H => t { D with nx := u D } σ H
theorem pss_nil : PSs X [] tNext := fun _ _ σ H _ I h => wpAny_execs_nil ⟨σ, H, I, h⟩
theorem pss_cons (h1 : PS X st t) (h2 : PSs X rest u) : PSs X (st :: rest) (tSeq t u) := by
  intro pins s σ H D I h
  refine wpAny_execs_cons (thn (h1 pins s σ H { D with nx := u D } I h) fun f s1 q => ?_)
  cases f with
  | next =>
    obtain ⟨σ', H', I', q⟩ := q
    exact h2 pins s1 σ' H' D I' q
  | ret v => exact q
  | brk => exact q
  | cont => exact q
theorem pss_one (h1 : PS X st t) : PSs X [st] t := by
  intro pins s σ H D I h
  refine wpAny_execs_cons (thn (h1 pins s σ H D I h) fun f s1 q => ?_)
  cases f with
  | next => exact wpAny_execs_nil q
  | ret v => exact q
  | brk => exact q
  | cont => exact q
theorem Inv.quiet {pins : List (Addr × Obj)} {σ : St} {H : Hp} {s : Shared} (I : Inv X pins σ H s) : interactive X.env = false := by simp [interactive, I.ok.kind]
noncomputable def tDrop (te : TE) : TS := fun D σ H => te σ H fun _ H1 => D.nx σ H1
theorem ps_expr (he : PE X e te) (hs : swapsWith e none pos.line X.env = pure false := by rfl) : PS X (.Expr e pos) (tDrop te) := by
  intro pins s σ H D I h
  exact wpAny_Expr_any (thn (he pins s σ H _ I h) fun v s1 ⟨x, H1, I1, r1, q1⟩ => ⟨σ, H1, I1, q1⟩) I.quiet hs
noncomputable def tRet (te : TE) : TS := fun D σ H => te σ H D.rt
theorem ps_ret (he : PE X e te) : PS X (.Return (some e) pos) (tRet te) := by
  intro pins s σ H D I h
  exact wpAny_Return_some (thn (he pins s σ H _ I h) fun v s1 ⟨x, H1, I1, r1, q1⟩ => ⟨x, σ, H1, I1, r1, q1⟩)
noncomputable def tIfS (c : TT) (t u : TS) : TS := fun D σ H => c σ H fun b H1 => if b = true then t D σ H1 else u D σ H1
theorem ps_if {c : Expr} {a b : List Stmt} {tc : TT} (hc : PT X c tc) (ha : PSs X a t) (hb : PSs X b u) : PS X (.If c a b pos) (tIfS tc t u) := by
  intro pins s σ H D I h
  refine wpAny_If (thn (hc pins s σ H _ I h) fun d s1 ⟨H1, I1, q1⟩ => ?_)
  cases d with
  | true => exact ha pins s1 σ H1 D I1 q1
  | false => exact hb pins s1 σ H1 D I1 q1
noncomputable def tNever : TS := fun _ _ _ => False
theorem ps_never : PS X st tNever := fun _ _ _ _ _ _ h => h.elim
end
noncomputable abbrev TG := V → St → Hp → (St → Hp → Prop) → Prop
noncomputable abbrev TGs := List V → St → Hp → (St → Hp → Prop) → Prop
noncomputable def PG (X : Cx) (target : Expr) (t : TG) : Prop :=
  ∀ (pins : List (Addr × Obj)) (s : Shared) (σ : St) (H : Hp) (v : V) (u : Value) (Q : St → Hp → Prop), Inv X pins σ H s → RelV v u → t v σ H Q →
    wpAny (model X.prog X.w) X.A (assign target X.env u) (fun _ s' => ∃ σ' H', Inv X pins σ' H' s' ∧ Q σ' H') X.xe s
noncomputable def PGs (X : Cx) (ts : List Expr) (t : TGs) : Prop :=
  ∀ (pins : List (Addr × Obj)) (s : Shared) (σ : St) (H : Hp) (vs : List V) (us : List Value) (Q : St → Hp → Prop), Inv X pins σ H s → Vals vs us → t vs σ H Q →
    wpAny (model X.prog X.w) X.A (assignInOrder ((assignEach ts X.env).map (·.2)) us) (fun _ s' => ∃ σ' H', Inv X pins σ' H' s' ∧ Q σ' H') X.xe s
section
variable {X : Cx} {pos : Pos}
noncomputable def gName (i : Nat) : TG := fun v σ H Q => Q (σ.set i (some v)) H
theorem pg_name {i : Nat} {x : Str} (hN : X.N.Nodup) (hi : X.N[i]? = some x) (hx : Loc X.env.scope x) (hf : X.fn x = true ∨ X.env.scope.names.lookup x = some .local := by first | exact .inl rfl | exact .inr rfl | assumption) : PG X (.Name x pos) (gName i) := by
  intro pins s σ H v u Q I r h
  exact wpAny_assign_Name (store_ok I hN hi hx r (fun s' I' => ⟨_, H, I', h⟩) hf)
noncomputable def gNil : TGs := fun vs σ H Q => vs = [] ∧ Q σ H
noncomputable def gCons (t : TG) (u : TGs) : TGs := fun vs σ H Q => ∃ v r, vs = v :: r ∧ t v σ H fun σ' H' => u r σ' H' Q
theorem pgs_nil : PGs X [] gNil := by
  intro pins s σ H vs us Q I r h
  obtain ⟨e, h⟩ := h
  subst e
  cases r
  exact assignInOrder_nil ⟨σ, H, I, h⟩
theorem pgs_cons {e : Expr} {es : List Expr} {t : TG} {u : TGs} (h1 : PG X e t) (h2 : PGs X es u)
    (hs : (assignEach (e :: es) X.env).map (·.2) = assign e X.env :: (assignEach es X.env).map (·.2) := by rfl) : PGs X (e :: es) (gCons t u) := by
  intro pins s σ H vs us Q I r h
  obtain ⟨v, vr, e1, h⟩ := h
  subst e1
  cases r with
  | cons r rr =>
    rw [hs]
    refine assignInOrder_cons (thn (h1 pins s σ H _ _ _ I r h) fun _ s1 ⟨σ1, H1, I1, q1⟩ => ?_)
    exact h2 pins s1 σ1 H1 _ _ Q I1 rr q1
noncomputable def gTup (K : PySem.W.Frag) (n : Nat) (t : TGs) : TG := fun v σ H Q => ∃ a xs, v = .ref a ∧ SqT K H a xs ∧ xs.length = n ∧ t xs σ H Q
theorem pg_tup {es : List Expr} {k : Nat} {t : TGs} {n : Nat} (hc : X.calm = true) (h : PGs X es t)
    (hn : (assignEach es X.env).length = n := by rfl) (hst : (assignEach es X.env).findIdx? (·.1) = none := by rfl) : PG X (.Tuple es k pos) (gTup X.K n t) := by
  intro pins s σ H v u Q I r hw
  obtain ⟨a, xs, e1, hq, hl, hw⟩ := hw
  subst e1
  cases r
  obtain ⟨its, rv, ht, hz⟩ := I.tuple hq
  refine assign_Tuple_tuple (I.ok.hd hc) ht (by simp [hn, ← hl, rv.length]) hst fun h' hx => ?_
  have I1 : Inv X pins σ H { s with heap := h' } := I.kept (t' := s.toks) fun b o e => hx b o (Nat.ne_of_lt (Heap.lt_size e)) e
  exact h pins _ σ H xs _ Q I1 (by simpa using rv) hw
noncomputable def tAsg (te : TE) (g : TG) : TS := fun D σ H => te σ H fun x H1 => g x σ H1 D.nx
theorem ps_asg {tg e : Expr} {te : TE} {g : TG} (he : PE X e te) (hg : PG X tg g) (hs : swapsWithSole [tg] e pos.line X.env = pure false := by rfl) (hw : swappedStores [tg] e X.env = pure none := by rfl)
    (h1 : (assignEach [tg] X.env).map (·.2) = [assign tg X.env] := by rfl) : PS X (.Assign [tg] e pos) (tAsg te g) := by
  intro pins s σ H D I h
  refine wpAny_Assign_stores (thn (he pins s σ H _ I h) fun v s1 ⟨x, H1, I1, r1, q1⟩ => ?_) hs hw
  rw [h1]
  exact thn (hg pins s1 σ H1 x v _ I1 r1 q1) fun _ s2 q => q
theorem ps_set {i : Nat} {x : Str} {e : Expr} {te : TE} {pos' : Pos} (hN : X.N.Nodup) (hi : X.N[i]? = some x) (hx : Loc X.env.scope x) (he : PE X e te) (hs : swapsWith e (some (.Name x pos')) pos.line X.env = pure false := by rfl) (hf : X.fn x = true ∨ X.env.scope.names.lookup x = some .local := by first | exact .inl rfl | exact .inr rfl | assumption) :
    PS X (.Assign [.Name x pos'] e pos) (tAsg te (gName i)) := by
  intro pins s σ H D I h
  refine wpAny_Assign_Name (thn (he pins s σ H _ I h) fun v s1 ⟨y, H1, I1, r1, q1⟩ => ?_) hs
  exact store_ok I1 hN hi hx r1 (fun s2 I2 => ⟨_, H1, I2, q1⟩) hf
end
section
variable {X : Cx} {pos : Pos}
end
structure It where
  go : Nat → Hp → Prop
  yld : Nat → Hp → V → Hp → Prop
  stop : Nat → Hp → Prop
noncomputable def FpOk (X : Cx) (pins : List (Addr × Obj)) (H : Hp) (b : Addr) : Prop :=
  H b = none ∧ b ≠ X.env.locals ∧ b ∉ X.fs ∧ (b ∈ X.ex ∨ X.s₀.heap.objs.size ≤ b) ∧ (∀ x c, X.env.cells.lookup x = some c → c ≠ b) ∧ ∀ p ∈ X.pn ++ pins, p.1 ≠ b
theorem Inv.fpOk {X : Cx} {pins : List (Addr × Obj)} {σ : St} {H H' : Hp} {s : Shared} {b : Addr} (I : Inv X pins σ H s) (hb : s.heap.objs.size ≤ b) (hn : H' b = none) : FpOk X pins H' b := by
  refine ⟨hn, Nat.ne_of_gt (Nat.lt_of_lt_of_le I.lt hb), I.nofs hb, .inr (Nat.le_trans I.sz hb), fun x c e z => ?_, fun p hp z => ?_⟩
  · obtain ⟨v, q⟩ := I.cell x c e
    exact absurd (Nat.lt_of_lt_of_le q.lt (by rw [z]; exact hb)) (Nat.lt_irrefl _)
  · exact absurd (Nat.lt_of_lt_of_le (Heap.lt_size (I.pin p hp).1) (by rw [z]; exact hb)) (Nat.lt_irrefl _)
structure Turn (P : Program) (w : World) (K : PySem.W.Frag) (tg : Expr) (J : It) (fp : List Addr) (it : Addr) (tn : Nat → Heap → Prop) : Prop where
  mem : it ∈ fp
  obj : ∀ i h, tn i h → ∀ b ∈ fp, ∃ o, h.get? b = some o ∧ ∀ v, o.data ≠ .cell v
  keep : ∀ i h h', tn i h → (∀ b ∈ fp, ∀ o, h.get? b = some o → h'.get? b = some o) → tn i h'
  item : ∀ (X : Cx), X.prog = P → X.w = w → X.K = K → X.calm = true → ∀ (i : Nat) (pins : List (Addr × Obj)) (s : Shared) (σ : St) (H : Hp) (E : Value → Shared → Prop), Inv X pins σ H s → (∀ b ∈ fp, FpOk X pins H b) → tn i s.heap → J.go i H →
    wpAny (model P w) X.A (pyNext (.ref it)) (fun r s1 => ∃ u, r = some u ∧
      wpAny (model P w) X.A (letOwnedTupleGo tg (.ref it) u) (fun _ s2 => ∃ x H', Inv X pins σ H' s2 ∧ RelV x u ∧ J.yld i H x H' ∧ tn (i + 1) s2.heap ∧ ∀ b ∈ fp, H' b = none) E s1) E s
  done : ∀ (X : Cx), X.prog = P → X.w = w → X.K = K → X.calm = true → ∀ (i : Nat) (pins : List (Addr × Obj)) (s : Shared) (σ : St) (H : Hp) (E : Value → Shared → Prop), Inv X pins σ H s → (∀ b ∈ fp, FpOk X pins H b) → tn i s.heap → J.stop i H →
    wpAny (model P w) X.A (pyNext (.ref it)) (fun r s1 => r = none ∧ Inv X pins σ H s1) E s
  self : ∀ (A : Around) (i : Nat) (s : Shared) (Q : Value → Shared → Prop) (E : Value → Shared → Prop), tn i s.heap → Q (.ref it) s → wpAny (model P w) A (pyIter (.ref it)) Q E s
noncomputable abbrev TI := St → Hp → (It → Hp → Prop) → Prop
noncomputable def PIE (X : Cx) (pins : List (Addr × Obj)) (σ : St) (tg : Expr) (R : It → Hp → Prop) (itv : Value) (s2 : Shared) : Prop :=
  ∃ (it : Addr) (fp : List Addr) (tn : Nat → Heap → Prop) (J : It) (H' : Hp), itv = .ref it ∧ Inv X pins σ H' s2 ∧ Turn X.prog X.w X.K tg J fp it tn ∧ tn 0 s2.heap ∧ (∀ b ∈ fp, FpOk X pins H' b) ∧ R J H'
noncomputable def PI (X : Cx) (tg iter : Expr) (wi : TI) : Prop :=
  ∀ (pins : List (Addr × Obj)) (s : Shared) (σ : St) (H : Hp) (R : It → Hp → Prop), Inv X pins σ H s → wi σ H R →
    wpAny (model X.prog X.w) X.A (eval iter X.env) (fun v s1 => wpAny (model X.prog X.w) X.A (pyIter v) (PIE X pins σ tg R) X.xe s1) X.xe s
theorem go_of {M : Model} {A : Around} {E : Value → Shared → Prop} {s : Shared} {tg : Expr} {it : Addr} {u : Value} {o : Obj} {n : String} {vs : Array Value} {Q : Unit → Shared → Prop} (ho : s.heap.get? it = some o) (hc : o.cls = .type n) (hd : o.data = .fields vs)
    (hn : ["enumerate", "zip", "dict_itemiterator", "dict_reverseitemiterator", "odict_iterator", "itertools.zip_longest", "itertools.pairwise"].contains n = false) (hQ : Q () s) : wpAny M A (letOwnedTupleGo tg (.ref it) u) Q E s := by
  unfold letOwnedTupleGo
  cases tg <;> first
    | exact wpAny_pure hQ
    | (cases u <;> first
        | exact wpAny_pure hQ
        | (refine wpAny_bind (wpAny_load ho ?_)
           rw [hc, hd]
           show wpAny M A (if (["enumerate", "zip", "dict_itemiterator", "dict_reverseitemiterator", "odict_iterator", "itertools.zip_longest", "itertools.pairwise"].contains n && vs[0]? == some (rawInt _)) = true then _ else _) Q E s
           rw [if_neg (by intro h; rw [hn, Bool.false_and] at h; cases h)]
           exact wpAny_pure hQ))
noncomputable def Itl (K : PySem.W.Frag) (a : Addr) : It :=
  ⟨fun i H => ∃ xs x, SqL K H a xs ∧ xs[i]? = some x, fun i H x H' => H' = H ∧ ∀ xs, SqL K H a xs → xs[i]? = some x, fun i H => ∃ xs, SqL K H a xs ∧ xs.length ≤ i⟩
noncomputable def Itt (K : PySem.W.Frag) (a : Addr) : It :=
  ⟨fun i H => ∃ xs x, SqT K H a xs ∧ xs[i]? = some x, fun i H x H' => H' = H ∧ ∀ xs, SqT K H a xs → xs[i]? = some x, fun i H => ∃ xs, SqT K H a xs ∧ xs.length ≤ i⟩
noncomputable def Itr (lo : Int) (n : Nat) : It := ⟨fun i _ => i < n, fun i H x H' => H' = H ∧ x = .int (lo + i), fun i _ => n ≤ i⟩
theorem turn_list {P : Program} {w : World} {K : PySem.W.Frag} {tg : Expr} (a it : Addr) : Turn P w K tg (Itl K a) [it] it (fun i h => h.IsListIter it a i) where
  mem := by simp
  obj := fun i h st b hb => by
    have e : b = it := by simpa using hb
    subst e
    obtain ⟨o, e, c, d⟩ := st
    exact ⟨o, e, fun v z => by rw [d] at z; cases z⟩
  keep := fun i h h' st k => st.at fun o e => k it (by simp) o e
  item := by
    intro X hP hw hK hc i pins s σ H E I hf st hg
    subst hP hw hK
    obtain ⟨xs, x, hq, hx⟩ := hg
    obtain ⟨its, rv, p, hz⟩ := I.list hq
    obtain ⟨u, hu, ru⟩ := rv.get hx
    obtain ⟨f0, f1, f2, f3, f4, f5⟩ := hf it (by simp)
    refine wpAny_pyNext_list_item st p.isList (x := u) (by simpa using hu) fun h' st' sb => ?_
    have I1 : Inv X pins σ H { s with heap := h' } := I.turned (t' := s.toks) (fun b o hb e => (sb.2 b hb).trans e) f0 f1 f3 f4 f5
    obtain ⟨o, e, c, d⟩ := id st'
    exact ⟨u, rfl, go_of (s := { s with heap := h' }) e c d (by decide) ⟨x, H, I1, ru, ⟨rfl, fun ys hy => by rw [I.list_inj hy hq]; exact hx⟩, st', fun b hb => (hf b hb).1⟩⟩
  done := by
    intro X hP hw hK hc i pins s σ H E I hf st hg
    subst hP hw hK
    obtain ⟨xs, hq, hx⟩ := hg
    obtain ⟨its, rv, p, hz⟩ := I.list hq
    obtain ⟨f0, f1, f2, f3, f4, f5⟩ := hf it (by simp)
    have hl := rv.length
    exact wpAny_pyNext_list_end (I.ok.hd hc) st p.isList (by simp; omega) fun h' eb => ⟨rfl, I.turned (t' := s.toks) (fun b o hb e => eb b o hb e) f0 f1 f3 f4 f5⟩
  self := fun _ _ _ _ _ st h => wpAny_pyIter_listiter st h
theorem turn_tuple {P : Program} {w : World} {K : PySem.W.Frag} {tg : Expr} (a it : Addr) : Turn P w K tg (Itt K a) [it] it (fun i h => h.IsTupleIter it a i) where
  mem := by simp
  obj := fun i h st b hb => by
    have e : b = it := by simpa using hb
    subst e
    obtain ⟨o, e, c, d⟩ := st
    exact ⟨o, e, fun v z => by rw [d] at z; cases z⟩
  keep := fun i h h' st k => st.at fun o e => k it (by simp) o e
  item := by
    intro X hP hw hK hc i pins s σ H E I hf st hg
    subst hP hw hK
    obtain ⟨xs, x, hq, hx⟩ := hg
    obtain ⟨its, rv, p, hz⟩ := I.tuple hq
    obtain ⟨u, hu, ru⟩ := rv.get hx
    obtain ⟨f0, f1, f2, f3, f4, f5⟩ := hf it (by simp)
    refine wpAny_pyNext_tuple_item st (show s.heap.IsTuple a its.toArray from p) (x := u) (by simpa using hu) fun h' st' sb => ?_
    have I1 : Inv X pins σ H { s with heap := h' } := I.turned (t' := s.toks) (fun b o hb e => (sb.2 b hb).trans e) f0 f1 f3 f4 f5
    obtain ⟨o, e, c, d⟩ := id st'
    exact ⟨u, rfl, go_of (s := { s with heap := h' }) e c d (by decide) ⟨x, H, I1, ru, ⟨rfl, fun ys hy => by rw [I.tuple_inj hy hq]; exact hx⟩, st', fun b hb => (hf b hb).1⟩⟩
  done := by
    intro X hP hw hK hc i pins s σ H E I hf st hg
    subst hP hw hK
    obtain ⟨xs, hq, hx⟩ := hg
    obtain ⟨its, rv, p, hz⟩ := I.tuple hq
    obtain ⟨f0, f1, f2, f3, f4, f5⟩ := hf it (by simp)
    have hl := rv.length
    exact wpAny_pyNext_tuple_end (I.ok.hd hc) st (show s.heap.IsTuple a its.toArray from p) (by simp; omega) fun h' eb => ⟨rfl, I.turned (t' := s.toks) (fun b o hb e => eb b o hb e) f0 f1 f3 f4 f5⟩
  self := fun _ _ _ _ _ st h => wpAny_pyIter_tupleiter st h
theorem turn_range {P : Program} {w : World} {K : PySem.W.Frag} {tg : Expr} (it : Addr) (lo : Int) (n : Nat) : Turn P w K tg (Itr lo n) [it] it (fun i h => IsRangeIter h it (lo + (i : Nat) * 1) ((n : Int) - (i : Nat)) 1) where
  mem := by simp
  obj := fun i h st b hb => by
    have e : b = it := by simpa using hb
    subst e
    exact ⟨_, st, fun v z => by
      have z' : Data.fields _ = Data.cell v := z
      cases z'⟩
  keep := fun i h h' st k => k it (by simp) _ st
  item := by
    intro X hP hw hK hc i pins s σ H E I hf st hg
    subst hP hw hK
    obtain ⟨f0, f1, f2, f3, f4, f5⟩ := hf it (by simp)
    have W := Walks.range (prog := X.prog) (w := X.w) (I.ok.hd hc) it lo 1 n
    refine W.item i s _ _ hg st fun v h' tk hv st' kk => ?_
    obtain ⟨t, rfl⟩ := hv
    have I1 : Inv X pins σ H { s with heap := h', toks := tk } := I.turned (fun b o hb e => kk b o (by simpa using hb) e) f0 f1 f3 f4 f5
    refine ⟨_, rfl, go_of (s := { s with heap := h', toks := tk }) (n := "range_iterator") st' rfl rfl (by decide) ⟨.int (lo + i), H, I1, ⟨t, ?_⟩, ⟨rfl, rfl⟩, st', fun b hb => (hf b hb).1⟩⟩
    rw [Int.mul_one]
  done := by
    intro X hP hw hK hc i pins s σ H E I hf st hg
    subst hP hw hK
    obtain ⟨f0, f1, f2, f3, f4, f5⟩ := hf it (by simp)
    exact wpAny_pyNext_range_end (I.ok.hd hc) st (by have : n ≤ i := hg; omega) fun h' eb => ⟨rfl, I.turned (t' := s.toks) (fun b o hb e => eb b o hb e) f0 f1 f3 f4 f5⟩
  self := fun _ _ _ _ _ st h => wpAny_pyIter_rangeiter st h
end L2
namespace L2
open PySem PySem.Spec PyProof.Rows
section
variable {X : Cx} {tg : Expr}
theorem range_it {pins : List (Addr × Obj)} {σ : St} {H : Hp} {s : Shared} {R : It → Hp → Prop} {E : Value → Shared → Prop} {lo hi : Int} {t u v : Tok} {tk : Nat} (I : Inv X pins σ H s) (h1 : -(2 ^ 62) ≤ lo) (h2 : lo < 2 ^ 62) (h3 : -(2 ^ 62) ≤ hi) (h4 : hi < 2 ^ 62)
    (q : R (Itr lo (hi - lo).toNat) H) : wpAny (model X.prog X.w) X.A (pyIter (.ref s.heap.objs.size)) (PIE X pins σ tg R) E { s with heap := s.heap.push { cls := .type "range", data := .fields #[.int lo t, .int hi u, .int 1 v] }, toks := tk } := by
  refine wpAny_pyIter_range (IsRange.new ..) (small_one h1 h2 h3 h4) ?_
  have I1 : Inv X pins σ H { s with heap := s.heap.push { cls := .type "range", data := .fields #[.int lo t, .int hi u, .int 1 v] }, toks := tk } := I.kept fun b o e => Heap.get?_push_of_some _ e
  refine ⟨(s.heap.push { cls := .type "range", data := .fields #[.int lo t, .int hi u, .int 1 v] }).objs.size, [(s.heap.push { cls := .type "range", data := .fields #[.int lo t, .int hi u, .int 1 v] }).objs.size], _, _, H, rfl,
    I1.kept (t' := tk) fun b o e => Heap.get?_push_of_some _ e, turn_range _ lo (hi - lo).toNat, ?_, fun b hb => ?_, q⟩
  · have e1 : lo + ((0 : Nat) : Int) * 1 = lo := by simp
    have e2 : (((hi - lo).toNat : Nat) : Int) - ((0 : Nat) : Int) = Builtin.Range.rangeSize lo hi 1 := by rw [rangeSize_one]; split <;> omega
    show IsRangeIter _ _ (lo + ((0 : Nat) : Int) * 1) ((((hi - lo).toNat : Nat) : Int) - ((0 : Nat) : Int)) 1
    rw [e1, e2]
    exact Heap.get?_push_size _ rfl
  · have e : b = (s.heap.push { cls := .type "range", data := .fields #[.int lo t, .int hi u, .int 1 v] }).objs.size := by simpa using hb
    subst e
    exact I1.fpOk (Nat.le_refl _) (I1.hok.fresh (Nat.le_refl _))
noncomputable def iRng1 (ta : TA) : TI := fun σ H R => ta σ H fun vs H1 => ∃ j : Int, vs = [.int j] ∧ -(2 ^ 62) ≤ j ∧ j < 2 ^ 62 ∧ R (Itr 0 j.toNat) H1
theorem pi_range1 {a : Expr} {ta : TA} {p pos : Pos} (hg : Gl X "range") (hm : X.mg "range" = none) (ha : PA X [a] ta) (hs : starEach [a] X.env = [(false, eval a X.env)] := by rfl) : PI X tg (.Call (.Name "range" p) [a] [] pos) (iRng1 ta) := by
  intro pins s σ H R I h
  refine Call_ (ld_blt I hg hm boot_range (PyProof.Rows.callWith_type1 (thn (ha pos pins s σ H _ I h) fun us s1 ⟨vs, H1, I1, r1, q1⟩ => ?_) hs rfl))
  obtain ⟨j, e, q1, q2, q⟩ := q1
  subst e
  cases r1 with
  | cons r rr =>
    cases rr
    obtain ⟨t, rfl⟩ := r
    exact call_range_1 (range_it I1 (by omega) (by omega) q1 q2 (by simpa using q))
noncomputable def tFor (wi : TI) (g : TG) (tb : TS) : TS := fun D σ H => wi σ H fun J H1 => ∃ W : Nat → Nat → St → Hp → Prop, (∃ m, W 0 m σ H1) ∧ ∀ i m σ H, W i m σ H →
  (J.stop i H ∧ D.nx σ H) ∨ (J.go i H ∧ ∃ N : St → Hp → Prop, (∀ σ' H', N σ' H' → ∃ m', m' < m ∧ W (i + 1) m' σ' H') ∧ ∀ x H', J.yld i H x H' → g x σ H' fun σ2 H2 => tb { D with nx := N, ct := N, bk := D.nx } σ2 H2)
noncomputable def pinsAt (fp : List Addr) (h : Heap) : List (Addr × Obj) := fp.filterMap fun b => (h.get? b).map fun o => (b, o)
theorem mem_pinsAt {fp : List Addr} {h : Heap} {b : Addr} {o : Obj} (hb : b ∈ fp) (e : h.get? b = some o) : (b, o) ∈ pinsAt fp h := List.mem_filterMap.mpr ⟨b, hb, by rw [e]; rfl⟩
theorem of_pinsAt {fp : List Addr} {h : Heap} {p : Addr × Obj} (hp : p ∈ pinsAt fp h) : p.1 ∈ fp ∧ h.get? p.1 = some p.2 := by
  obtain ⟨b, hb, e⟩ := List.mem_filterMap.mp hp
  cases q : h.get? b with
  | none => rw [q] at e; cases e
  | some o =>
    rw [q] at e
    have e' : (b, o) = p := Option.some.inj e
    subst e'
    exact ⟨hb, q⟩
theorem Inv.pinned {pins : List (Addr × Obj)} {σ : St} {H : Hp} {s : Shared} {fp : List Addr} (I : Inv X pins σ H s) (hf : ∀ b ∈ fp, FpOk X pins H b) (ho : ∀ b ∈ fp, ∃ o, s.heap.get? b = some o ∧ ∀ v, o.data ≠ .cell v) : Inv X (pins ++ pinsAt fp s.heap) σ H s :=
  I.pins_of fun p hp => (List.mem_append.mp hp).elim (fun z => I.pin p (List.mem_append_right _ z)) fun z => by
    obtain ⟨hb, e⟩ := of_pinsAt z
    obtain ⟨f0, f1, f2, _⟩ := hf p.1 hb
    obtain ⟨o, e', d⟩ := ho p.1 hb
    rw [e] at e'; cases e'
    exact ⟨e, f0, f1, f2, d⟩
theorem Inv.unpinned {pins pl : List (Addr × Obj)} {σ : St} {H : Hp} {s : Shared} (I : Inv X (pins ++ pl) σ H s) : Inv X pins σ H s := I.pins_of fun p hp => I.pin p (List.mem_append_right _ (List.mem_append_left _ hp))
theorem ps_for {iter : Expr} {body : List Stmt} {wi : TI} {g : TG} {tb : TS} {pos : Pos} (hp : PassesOwn (model X.prog X.w) X.A X.env X.xe) (hc : X.calm = true) (hi : PI X tg iter wi) (hg : PG X tg g) (hb : PSs X body tb)
    (hs : ∀ x, foldedSetIterable iter X.env x = pure x := by intro _; rfl) : PS X (.For tg iter body [] pos) (tFor wi g tb) := by
  intro pins s σ H D I h
  refine wpAny_For (thn (hi pins s σ H _ I h) fun v s1 h1 => thn h1 fun itv s2 h2 => ?_) hs
  obtain ⟨it, fp, tn, J, H2, e, I2, T, st2, f2, W, ⟨m0, w0⟩, turn⟩ := h2
  subst e
  -- what stays true of the iterator's objects through the loop
  have stat : ∀ {H' : Hp}, (∀ b ∈ fp, H' b = none) → ∀ b ∈ fp, FpOk X pins H' b := fun hn b hb => ⟨hn b hb, (f2 b hb).2⟩
  refine codeAny_forLoop_any (fun n s' => ∃ i σ' H', Inv X pins σ' H' s' ∧ tn i s'.heap ∧ (∀ b ∈ fp, H' b = none) ∧ W i n σ' H') ?_ m0 ⟨0, σ, H2, I2, st2, fun b hb => (f2 b hb).1, w0⟩
  rintro n s3 ⟨i, σ3, H3, I3, st3, fr3, w3⟩
  rcases turn i n σ3 H3 w3 with ⟨stop, qn⟩ | ⟨go, N, hN, step⟩
  · refine wpAny_passesOwn hp (thn (T.done X rfl rfl rfl hc i pins s3 σ3 H3 X.xe I3 (stat fr3) st3 stop) fun r s4 ⟨hr, I4⟩ => ?_)
    subst hr
    exact wpAny_execs_nil ⟨σ3, H3, I4, qn⟩
  · refine wpAny_passesOwn hp (thn (T.item X rfl rfl rfl hc i pins s3 σ3 H3 X.xe I3 (stat fr3) st3 go) fun r s4 ⟨u, hr, h4⟩ => ?_)
    subst hr
    refine wpAny_passesOwn hp (thn h4 fun _ s5 ⟨x, H5, I5, r5, y5, st5, fr5⟩ => ?_)
    have I5' := I5.pinned (stat fr5) (T.obj _ _ st5)
    refine wpAny_passesOwn hp (thn (hg _ s5 σ3 H5 x u _ I5' r5 (step x H5 y5)) fun _ s6 ⟨σ6, H6, I6, q6⟩ => ?_)
    refine wpAny_passesOwn hp (thn (hb _ s6 σ6 H6 _ I6 q6) fun f s7 q7 => ?_)
    have again : ∀ {σ7 : St} {H7 : Hp}, Inv X (pins ++ pinsAt fp s5.heap) σ7 H7 s7 → N σ7 H7 → ∃ m, m < n ∧ ∃ i σ' H', Inv X pins σ' H' s7 ∧ tn i s7.heap ∧ (∀ b ∈ fp, H' b = none) ∧ W i m σ' H' := fun {σ7 H7} I7 n7 => by
      obtain ⟨m', hm, w7⟩ := hN σ7 H7 n7
      refine ⟨m', hm, i + 1, σ7, H7, I7.unpinned, T.keep _ _ _ st5 fun b hb o e => (I7.pin (b, o) (List.mem_append_right _ (List.mem_append_right _ (mem_pinsAt hb e)))).1, fun b hb => ?_, w7⟩
      obtain ⟨o, e, d⟩ := T.obj _ _ st5 b hb
      exact (I7.pin (b, o) (List.mem_append_right _ (List.mem_append_right _ (mem_pinsAt hb e)))).2.1
    cases f with
    | next => obtain ⟨σ7, H7, I7, n7⟩ := q7; exact again I7 n7
    | cont => obtain ⟨σ7, H7, I7, n7⟩ := q7; exact again I7 n7
    | brk => obtain ⟨σ7, H7, I7, q7⟩ := q7; exact ⟨σ7, H7, I7.unpinned, q7⟩
    | ret v => obtain ⟨x7, σ7, H7, I7, r7, q7⟩ := q7; exact ⟨x7, σ7, H7, I7.unpinned, r7, q7⟩
end
end L2
namespace L2
open PySem PySem.Spec PyProof.Rows
noncomputable abbrev R2 := V → V → Hp → VK → Prop
noncomputable def OpR (X : Cx) (f : Value → Value → Sem Value) (r : R2) : Prop :=
  ∀ (pins : List (Addr × Obj)) (s : Shared) (σ : St) (H : Hp) (x y : V) (v u : Value) (Q : VK), Inv X pins σ H s → RelV x v → RelV y u → r x y H Q →
    wpAny (model X.prog X.w) X.A (f v u) (EP X pins σ Q) X.xe s
noncomputable def UnR (X : Cx) (f : Value → Sem Value) (r : V → Hp → VK → Prop) : Prop :=
  ∀ (pins : List (Addr × Obj)) (s : Shared) (σ : St) (H : Hp) (x : V) (v : Value) (Q : VK), Inv X pins σ H s → RelV x v → r x H Q →
    wpAny (model X.prog X.w) X.A (f v) (EP X pins σ Q) X.xe s
noncomputable def CallR (X : Cx) (f : Value) (r : List V → Hp → VK → Prop) : Prop :=
  ∀ (pins : List (Addr × Obj)) (s : Shared) (σ : St) (H : Hp) (xs : List V) (us : List Value) (Q : VK), Inv X pins σ H s → Vals xs us → r xs H Q →
    wpAny (model X.prog X.w) X.A (call f us) (EP X pins σ Q) X.xe s
noncomputable def tOp (r : R2) (ta tb : TE) : TE := fun σ H Q => ta σ H fun x H1 => tb σ H1 fun y H2 => r x y H2 Q
noncomputable def tUn (r : V → Hp → VK → Prop) (ta : TE) : TE := fun σ H Q => ta σ H fun x H1 => r x H1 Q
noncomputable def rI (C : Int → Int → Prop) (g : Int → Int → V) : R2 := fun x y H Q => ∃ i j, x = .int i ∧ y = .int j ∧ C i j ∧ Q (g i j) H
noncomputable def rI0 (g : Int → Int → V) : R2 := fun x y H Q => ∃ i j, x = .int i ∧ y = .int j ∧ Q (g i j) H
noncomputable def rU (g : Int → V) : V → Hp → VK → Prop := fun x H Q => ∃ i, x = .int i ∧ Q (g i) H
section
variable {X : Cx} {a b c : Expr} {ta tb tc : TE} {pos : Pos}
theorem binT (ha : PE X a ta) (hb : PE X b tb) {pins : List (Addr × Obj)} {s : Shared} {σ : St} {H : Hp} {R : V → V → Hp → Prop} (I : Inv X pins σ H s)
    (h : ta σ H fun x H1 => tb σ H1 fun y H2 => R x y H2) {Q : Value → Shared → Prop} {f : Value → Value → Sem Value}
    (hf : ∀ v u s2 x y H2, Inv X pins σ H2 s2 → RelV x v → RelV y u → R x y H2 → wpAny (model X.prog X.w) X.A (f v u) Q X.xe s2) :
    wpAny (model X.prog X.w) X.A (eval a X.env) (fun v s₁ => wpAny (model X.prog X.w) X.A (eval b X.env) (fun u s₂ => wpAny (model X.prog X.w) X.A (f v u) Q X.xe s₂) X.xe s₁) X.xe s := by
  refine thn (ha pins s σ H _ I h) fun v s1 ⟨x, H1, I1, r1, q1⟩ => ?_
  refine thn (hb pins s1 σ H1 _ I1 q1) fun u s2 ⟨y, H2, I2, r2, q2⟩ => ?_
  exact hf v u s2 x y H2 I2 r1 r2 q2
theorem pe_op {op : Operator} {r : R2} (ho : OpR X (binaryOp op) r) (ha : PE X a ta) (hb : PE X b tb) : PE X (.BinOp a op b pos) (tOp r ta tb) := by
  intro pins s σ H Q I h
  exact wpAny_BinOp (binT ha hb I h fun v u s2 x y H2 I2 rx ry q => ho pins s2 σ H2 x y v u Q I2 rx ry q)
theorem pe_un {op : UnaryOp} {r : V → Hp → VK → Prop} (ho : UnR X (unaryOp op) r) (ha : PE X a ta) : PE X (.UnaryOp op a pos) (tUn r ta) := by
  intro pins s σ H Q I h
  exact UnaryOp_ (thn (ha pins s σ H _ I h) fun v s1 ⟨x, H1, I1, r1, q1⟩ => ho pins s1 σ H1 x v Q I1 r1 q1)
theorem opI {f : Value → Value → Sem Value} {C : Int → Int → Prop} {g : Int → Int → Int}
    (rule : ∀ (i j : Int) (t u : Tok) (s : Shared) (Q : Value → Shared → Prop) (E : Value → Shared → Prop), C i j → Q (.int (g i j) s.toks) { s with toks := s.toks + 1 } → wpAny (model X.prog X.w) X.A (f (.int i t) (.int j u)) Q E s) :
    OpR X f (rI C fun i j => .int (g i j)) := by
  intro pins s σ H x y v u Q I rx ry h
  obtain ⟨i, j, rfl, rfl, hc, q⟩ := h
  obtain ⟨t, rfl⟩ := rx
  obtain ⟨t', rfl⟩ := ry
  exact rule i j t t' s _ _ hc ⟨.int (g i j), H, I.tok _, ⟨_, rfl⟩, q⟩
theorem opI0 {f : Value → Value → Sem Value} {g : Int → Int → Int}
    (rule : ∀ (i j : Int) (t u : Tok) (s : Shared) (Q : Value → Shared → Prop) (E : Value → Shared → Prop), Q (.int (g i j) s.toks) { s with toks := s.toks + 1 } → wpAny (model X.prog X.w) X.A (f (.int i t) (.int j u)) Q E s) :
    OpR X f (rI0 fun i j => .int (g i j)) := by
  intro pins s σ H x y v u Q I rx ry h
  obtain ⟨i, j, rfl, rfl, q⟩ := h
  obtain ⟨t, rfl⟩ := rx
  obtain ⟨t', rfl⟩ := ry
  exact rule i j t t' s _ _ ⟨.int (g i j), H, I.tok _, ⟨_, rfl⟩, q⟩
theorem opB0 {f : Value → Value → Sem Value} {g : Int → Int → Bool}
    (rule : ∀ (i j : Int) (t u : Tok) (s : Shared) (Q : Value → Shared → Prop) (E : Value → Shared → Prop), Q (.bool (g i j)) s → wpAny (model X.prog X.w) X.A (f (.int i t) (.int j u)) Q E s) :
    OpR X f (rI0 fun i j => .bl (g i j)) := by
  intro pins s σ H x y v u Q I rx ry h
  obtain ⟨i, j, rfl, rfl, q⟩ := h
  obtain ⟨t, rfl⟩ := rx
  obtain ⟨t', rfl⟩ := ry
  exact rule i j t t' s _ _ ⟨.bl (g i j), H, I, rfl, q⟩
noncomputable def CPow (i j : Int) : Prop := 0 ≤ j ∧ j ≤ 1000000 ∧ i.natAbs < 2 ^ 64
noncomputable def CMul (i j : Int) : Prop := (-(2 ^ 64) < i ∧ i < 2 ^ 64) ∨ (-(2 ^ 64) < j ∧ j < 2 ^ 64)
theorem CMul.ok {i j : Int} (h : CMul i j) : IntMulOk i j := by
  rcases h with ⟨h1, h2⟩ | ⟨h1, h2⟩
  · exact .of_left (intBits_le_64 h1 h2)
  · exact .of_right (intBits_le_64 h1 h2)
theorem op_add : OpR X (binaryOp .Add) (rI0 fun i j => .int (i + j)) := opI0 fun _ _ _ _ _ _ _ q => add_int q
theorem op_sub : OpR X (binaryOp .Sub) (rI0 fun i j => .int (i - j)) := opI0 fun _ _ _ _ _ _ _ q => sub_int q
theorem op_mul : OpR X (binaryOp .Mult) (rI CMul fun i j => .int (i * j)) := opI fun _ _ _ _ _ _ _ hc q => mul_int q hc.ok
theorem op_mod : OpR X (binaryOp .Mod) (rI (fun _ j => 0 < j) fun i j => .int (i % j)) := opI fun i j _ _ _ _ _ hc q => by
  have h1 : (0 : Int) < j := hc
  exact mod_int' (by omega) (by rw [Int.fmod_eq_emod_of_nonneg i (by omega)]; exact q)
theorem op_pow : OpR X (binaryOp .Pow) (rI CPow fun i j => .int (i ^ j.toNat)) := opI fun _ _ _ _ _ _ _ hc q => pow_int_small hc.1 hc.2.1 hc.2.2 q
theorem unI {f : Value → Sem Value} {g : Int → Int}
    (rule : ∀ (i : Int) (t : Tok) (s : Shared) (Q : Value → Shared → Prop) (E : Value → Shared → Prop), Q (.int (g i) s.toks) { s with toks := s.toks + 1 } → wpAny (model X.prog X.w) X.A (f (.int i t)) Q E s) :
    UnR X f (rU fun i => .int (g i)) := by
  intro pins s σ H x v Q I rx h
  obtain ⟨i, rfl, q⟩ := h
  obtain ⟨t, rfl⟩ := rx
  exact rule i t s _ _ ⟨.int (g i), H, I.tok _, ⟨_, rfl⟩, q⟩
theorem un_neg : UnR X (unaryOp .USub) (rU fun i => .int (-i)) := unI fun _ _ _ _ _ q => neg_int q
end
noncomputable def scal : V → V → Bool
  | .non, .non => true | .non, .int _ => true | .int _, .non => true | .non, .bl _ => true | .bl _, .non => true | .non, .str _ => true | .str _, .non => true
  | .int _, .int _ => true | .bl _, .bl _ => true | .str _, .str _ => true | .byt _, .byt _ => true
  | .int _, .str _ => true | .str _, .int _ => true | .bl _, .str _ => true | .str _, .bl _ => true
  | _, _ => false
noncomputable def rNe : R2 := fun x y H Q => scal x y = true ∧ Q (.bl (!decide (x = y))) H
theorem dec_int {i j : Int} : decide (V.int i = V.int j) = (i == j) := by
  rw [Bool.eq_iff_iff]
  simp
theorem dec_bl {i j : Bool} : decide (V.bl i = V.bl j) = (i == j) := by
  rw [Bool.eq_iff_iff]
  simp
theorem dec_str {i j : Str} : decide (V.str i = V.str j) = (i == j) := by
  rw [Bool.eq_iff_iff]
  simp
theorem dec_byt {i j : Array UInt8} : decide (V.byt i = V.byt j) = (i.toList == j.toList) := by
  rw [Bool.eq_iff_iff]
  cases i
  cases j
  simp
section
variable {X : Cx} {a b c : Expr} {ta tb tc : TE} {pos : Pos}
theorem fin_bl {pins : List (Addr × Obj)} {σ : St} {H : Hp} {s : Shared} {Q : VK} {k k' : Bool} (I : Inv X pins σ H s) (q : Q (.bl k) H) (e : k = k') : EP X pins σ Q (.bool k') s := by
  subst e
  exact ⟨.bl k, H, I, rfl, q⟩
theorem op_ne : OpR X (compareOp .NotEq) rNe := by
  intro pins s σ H x y v u Q I rx ry h
  obtain ⟨hs, q⟩ := h
  cases x with
  | non =>
    cases rx
    cases y with
    | non => cases ry; exact PySem.EqNone.ne_none_none (fin_bl I q (by simp))
    | bl j => cases ry; exact PySem.EqNone.ne_none_bool (fin_bl I q (by simp))
    | int j => obtain ⟨t', rfl⟩ := ry; exact PySem.EqNone.ne_none_int (fin_bl I q (by simp))
    | str j => obtain ⟨t', rfl⟩ := ry; exact PySem.EqNone.ne_none_str (fin_bl I q (by simp))
    | _ => exact absurd (show false = true from hs) Bool.false_ne_true
  | bl i =>
    cases rx
    cases y with
    | non => cases ry; exact PySem.EqNone.ne_bool_none (fin_bl I q (by simp))
    | bl j => cases ry; exact ne_bool (fin_bl I q (congrArg not dec_bl))
    | str j => obtain ⟨t', rfl⟩ := ry; exact PySem.EqMixed.ne_bool_str (fin_bl I q (by simp))
    | _ => exact absurd (show false = true from hs) Bool.false_ne_true
  | int i =>
    obtain ⟨t, rfl⟩ := rx
    cases y with
    | non => cases ry; exact PySem.EqNone.ne_int_none (fin_bl I q (by simp))
    | int j => obtain ⟨t', rfl⟩ := ry; exact ne_int (fin_bl I q (congrArg not dec_int))
    | str j => obtain ⟨t', rfl⟩ := ry; exact PySem.EqMixed.ne_int_str (fin_bl I q (by simp))
    | _ => exact absurd (show false = true from hs) Bool.false_ne_true
  | str i =>
    obtain ⟨t, rfl⟩ := rx
    cases y with
    | non => cases ry; exact PySem.EqNone.ne_str_none (fin_bl I q (by simp))
    | bl j => cases ry; exact PySem.EqMixed.ne_str_bool (fin_bl I q (by simp))
    | int j => obtain ⟨t', rfl⟩ := ry; exact PySem.EqMixed.ne_str_int (fin_bl I q (by simp))
    | str j => obtain ⟨t', rfl⟩ := ry; exact ne_str (fin_bl I q (congrArg not dec_str))
    | _ => exact absurd (show false = true from hs) Bool.false_ne_true
  | byt i =>
    obtain ⟨t, rfl⟩ := rx
    cases y with
    | byt j => obtain ⟨t', rfl⟩ := ry; exact PySem.W.ne_bytes (fin_bl I q (congrArg not dec_byt))
    | _ => exact absurd (show false = true from hs) Bool.false_ne_true
  | _ => cases y <;> exact absurd (show false = true from hs) Bool.false_ne_true
theorem op_lt : OpR X (compareOp .Lt) (rI0 fun i j => .bl (decide (i < j))) := opB0 fun _ _ _ _ _ _ _ q => lt_int q
theorem op_le : OpR X (compareOp .LtE) (rI0 fun i j => .bl (decide (i ≤ j))) := opB0 fun _ _ _ _ _ _ _ q => le_int q
theorem op_gt : OpR X (compareOp .Gt) (rI0 fun i j => .bl (decide (j < i))) := opB0 fun _ _ _ _ _ _ _ q => gt_int q
theorem op_ge : OpR X (compareOp .GtE) (rI0 fun i j => .bl (decide (j ≤ i))) := opB0 fun _ _ _ _ _ _ _ q => ge_int q
theorem op_isN : OpR X (compareOp .Is) (fun x y H Q => y = .non ∧ Q (.bl (decide (x = .non))) H) := by
  intro pins s σ H x y v u Q I rx ry h
  obtain ⟨rfl, q⟩ := h
  cases ry
  refine is_none_gen (fin_bl I q ?_)
  cases x <;> first
    | (cases rx; rfl)
    | (obtain ⟨t, rfl⟩ := rx; rfl)
theorem op_notN : OpR X (compareOp .IsNot) (fun x y H Q => y = .non ∧ Q (.bl (!decide (x = .non))) H) := by
  intro pins s σ H x y v u Q I rx ry h
  obtain ⟨rfl, q⟩ := h
  cases ry
  refine isnot_none_gen (fin_bl I q ?_)
  cases x <;> first
    | (cases rx; rfl)
    | (obtain ⟨t, rfl⟩ := rx; rfl)
theorem nomark (b : Expr) {op : CmpOp} (h : op ≠ .In := by decide) (h2 : op ≠ .NotIn := by decide) : behindInMarks op b = false := by
  have e1 : (op == CmpOp.In) = false := by cases op <;> first | rfl | exact absurd rfl h
  have e2 : (op == CmpOp.NotIn) = false := by cases op <;> first | rfl | exact absurd rfl h2
  cases b <;> simp [behindInMarks, e1, e2]
theorem pe_cmpR {op : CmpOp} {r : R2} (ho : OpR X (compareOp op) r) (ha : PE X a ta) (hb : PE X b tb) (hm : behindInMarks op b = false) : PE X (.Compare a [op] [b] pos) (tOp r ta tb) := by
  intro pins s σ H Q I h
  exact wpAny_Compare1 (binT ha hb I h fun v u s2 x y H2 I2 rx ry q => ho pins s2 σ H2 x y v u Q I2 rx ry q) hm
noncomputable def tTest (t : TE) : TT := fun σ H Q => t σ H fun x H' => ∃ k, x = .bl k ∧ Q k H'
theorem pt_cmpR {op : CmpOp} {r : R2} (ho : OpR X (compareOp op) r) (ha : PE X a ta) (hb : PE X b tb) (hm : behindInMarks op b = false) : PT X (.Compare a [op] [b] pos) (tTest (tOp r ta tb)) := by
  intro pins s σ H Q I h
  refine wpAny_isTrue_Compare1 (thn (ha pins s σ H _ I h) fun v s1 ⟨x, H1, I1, r1, q1⟩ => thn (hb pins s1 σ H1 _ I1 q1) fun u s2 ⟨y, H2, I2, r2, q2⟩ =>
    thn (ho pins s2 σ H2 x y v u _ I2 r1 r2 q2) fun c s3 ⟨z, H3, I3, r3, k, e, q3⟩ => ?_) hm
  subst e
  cases r3
  exact wpAny_truthy_bool ⟨H3, I3, q3⟩
noncomputable def tChain (r r' : R2) (ta tb tc : TE) : TE := fun σ H Q => ta σ H fun x H1 => tb σ H1 fun y H2 => r x y H2 fun z H3 => ∃ k, z = .bl k ∧
  (if k = true then tc σ H3 fun w' H4 => r' y w' H4 Q else Q (.bl false) H3)
theorem pe_chain {op op' : CmpOp} {r r' : R2} (ho : OpR X (compareOp op) r) (ho' : OpR X (compareOp op') r') (ha : PE X a ta) (hb : PE X b tb) (hc : PE X c tc)
    (hm : lastMarks [op, op'] [b, c] = false := by with_unfolding_all rfl) : PE X (.Compare a [op, op'] [b, c] pos) (tChain r r' ta tb tc) := by
  intro pins s σ H Q I h
  refine Compare_chain (thn (ha pins s σ H _ I h) fun v s1 ⟨x, H1, I1, r1, q1⟩ => chain_link (thn (hb pins s1 σ H1 _ I1 q1) fun u s2 ⟨y, H2, I2, r2, q2⟩ =>
    thn (ho pins s2 σ H2 x y v u _ I2 r1 r2 q2) fun d s3 ⟨z, H3, I3, r3, k, e, q3⟩ => ?_)) hm
  subst e
  cases r3
  refine wpAny_truthy_bool ?_
  cases k with
  | false => exact ite_ff ⟨.bl false, H3, I3, rfl, q3⟩
  | true => exact ite_tt (chain_last (thn (hc pins s3 σ H3 _ I3 q3) fun w' s4 ⟨z', H4, I4, r4, q4⟩ => ho' pins s4 σ H4 y z' u w' Q I4 r2 r4 q4))
theorem pt_chain {op op' : CmpOp} {r r' : R2} (ho : OpR X (compareOp op) r) (ho' : OpR X (compareOp op') r') (ha : PE X a ta) (hb : PE X b tb) (hc : PE X c tc)
    (hm : lastMarks [op, op'] [b, c] = false := by with_unfolding_all rfl) : PT X (.Compare a [op, op'] [b, c] pos) (tTest (tChain r r' ta tb tc)) := by
  intro pins s σ H Q I h
  refine isTrue_chain (thn (ha pins s σ H _ I h) fun v s1 ⟨x, H1, I1, r1, q1⟩ => test_link (thn (hb pins s1 σ H1 _ I1 q1) fun u s2 ⟨y, H2, I2, r2, q2⟩ =>
    thn (ho pins s2 σ H2 x y v u _ I2 r1 r2 q2) fun d s3 ⟨z, H3, I3, r3, k, e, q3⟩ => ?_)) hm
  subst e
  cases r3
  refine wpAny_truthy_bool ?_
  cases k with
  | false =>
    obtain ⟨k', e', q'⟩ := q3
    cases e'
    exact ite_ff ⟨H3, I3, q'⟩
  | true =>
    refine ite_tt (test_last (thn (hc pins s3 σ H3 _ I3 q3) fun w' s4 ⟨z', H4, I4, r4, q4⟩ => thn (ho' pins s4 σ H4 y z' u w' _ I4 r2 r4 q4) fun d' s5 ⟨z2, H5, I5, r5, k2, e2, q5⟩ => ?_))
    subst e2
    cases r5
    exact wpAny_truthy_bool ⟨H5, I5, q5⟩
theorem line63 : (sizeLine : Nat) < 2 ^ 63 := by rw [sizeLine_eq]; decide
theorem op_add_str : OpR X (binaryOp .Add) (fun x y H Q => ∃ i j, x = .str i ∧ y = .str j ∧ i.length + j.length ≤ sizeLine ∧ Q (.str (i ++ j)) H) := by
  intro pins s σ H x y v u Q I rx ry h
  obtain ⟨i, j, rfl, rfl, hz, q⟩ := h
  obtain ⟨t, rfl⟩ := rx
  obtain ⟨t', rfl⟩ := ry
  exact add_str (fun t' tk => ⟨.str (i ++ j), H, I.tok _, ⟨_, rfl⟩, q⟩) hz
theorem vals1 {x : V} {us : List Value} (r : Vals [x] us) : ∃ u, us = [u] ∧ RelV x u := by
  cases r with
  | cons r1 r2 => cases r2; exact ⟨_, rfl, r1⟩
theorem vals2 {x y : V} {us : List Value} (r : Vals [x, y] us) : ∃ u w', us = [u, w'] ∧ RelV x u ∧ RelV y w' := by
  cases r with
  | cons r1 r2 =>
    cases r2 with
    | cons r3 r4 => cases r4; exact ⟨_, _, rfl, r1, r3⟩
theorem call_max2 (hc : X.calm = true) : CallR X (.builtin "max") (fun xs H Q => ∃ i j, xs = [.int i, .int j] ∧ Q (.int (if j > i then j else i)) H) := by
  intro pins s σ H xs us Q I r h
  obtain ⟨i, j, rfl, q⟩ := h
  obtain ⟨u, w', rfl, ⟨t, rfl⟩, ⟨t', rfl⟩⟩ := vals2 r
  refine max_two_ints (I.ok.hd hc) fun h' tk k => ⟨_, H, I.kept k, ?_, q⟩
  by_cases hj : j > i
  · rw [if_pos hj, if_pos hj]; exact ⟨_, rfl⟩
  · rw [if_neg hj, if_neg hj]; exact ⟨_, rfl⟩
noncomputable def LenV (K : PySem.W.Frag) (x : V) (H : Hp) (n : Nat) : Prop :=
  match x with
  | .str y => y.length ≤ sizeLine ∧ n = y.length
  | .byt y => y.size ≤ sizeLine ∧ n = y.size
  | .ref p => (∃ xs, SqL K H p xs ∧ n = xs.length) ∨ ∃ xs, SqT K H p xs ∧ n = xs.length
  | _ => False
theorem call_len : CallR X (.builtin "len") (fun xs H Q => ∃ x n, xs = [x] ∧ LenV X.K x H n ∧ Q (.int n) H) := by
  intro pins s σ H xs us Q I r h
  obtain ⟨x, n, rfl, e, q⟩ := h
  obtain ⟨u, rfl, rx⟩ := vals1 r
  have hl := line63
  have hs : sizeLine = 16777216 := sizeLine_eq
  cases x with
  | str y =>
    obtain ⟨t, rfl⟩ := rx
    obtain ⟨hy, e'⟩ : y.length ≤ sizeLine ∧ n = y.length := e
    subst e'
    exact len_str (by omega) ⟨.int _, H, I.tok _, ⟨_, rfl⟩, q⟩
  | byt y =>
    obtain ⟨t, rfl⟩ := rx
    obtain ⟨hy, e'⟩ : y.size ≤ sizeLine ∧ n = y.size := e
    subst e'
    exact PySem.W.len_bytes (by omega) ⟨.int _, H, I.tok _, ⟨_, rfl⟩, q⟩
  | ref p =>
    cases rx
    have e' : (∃ xs, SqL X.K H p xs ∧ n = xs.length) ∨ ∃ xs, SqT X.K H p xs ∧ n = xs.length := e
    rcases e' with ⟨xs, hx, e'⟩ | ⟨xs, hx, e'⟩
    · subst e'
      obtain ⟨its, r', pl, hz⟩ := I.list hx
      have hlen := r'.length
      exact Calls.call_len_list pl.isList (by simp only [List.size_toArray]; omega) ⟨.int xs.length, H, I.tok _, ⟨_, by simp only [List.size_toArray]; rw [hlen]⟩, q⟩
    · subst e'
      obtain ⟨its, r', pl, hz⟩ := I.tuple hx
      have hlen := r'.length
      exact len_tuple pl (by simp only [List.size_toArray]; omega) ⟨.int xs.length, H, I.tok _, ⟨_, by simp only [List.size_toArray]; rw [hlen]⟩, q⟩
  | _ => exact (show False from e).elim
end
end L2
namespace L2
open PySem PySem.Spec PyProof.Rows
structure ObjM (h : Heap) (x dx C : Addr) (mA : Str → Option Value) : Prop where
  obj : h.get? x = some (PySem.W.instObj C dx)
  ns : h.Ns1 dx mA
  ne : dx ≠ x
theorem lookIn_ns {h : Heap} {dx : Addr} {mA : Str → Option Value} (n : h.Ns1 dx mA) : ∃ od, h.get? dx = some od ∧ ∀ name, PySem.W.lookIn name od = some (mA name) := by
  obtain ⟨o, es, ep, ho, hd, hk, _, hm⟩ := n
  refine ⟨o, ho, fun name => ?_⟩
  have e := hm name
  unfold nsFind findBy at e
  rw [← Array.find?_toList] at e
  unfold PySem.W.lookIn
  rw [hd]
  dsimp only
  split
  · rename_i y q
    rw [q] at e
    exact congrArg some e
  · rename_i q
    rw [q] at e
    have a : es.toList.any (·.refKey) = false := by
      rw [List.any_eq_false]
      intro y hy
      obtain ⟨z, t, hkey⟩ := hk y (Array.mem_toList_iff.mp hy)
      simp [DictEntry.refKey, hkey]
    have a' : ¬ es.toList.any (·.refKey) = true := by rw [a]; exact Bool.false_ne_true
    rw [if_neg a']
    exact congrArg some e
section
variable {prog : Program} {w : World} {A : Around} {E : Value → Shared → Prop} {s : Shared} {K : PySem.W.Frag} {x dx C f : Addr} {mA : Str → Option Value} {name : Str} {v : Value}
end
noncomputable def putF (f : Str) (v : V) : List (Str × V) → List (Str × V)
  | [] => [(f, v)]
  | (g, x) :: r => if g = f then (g, v) :: r else (g, x) :: putF f v r
theorem RelO.some_of {v : V} {o : Option Value} (r : RelO (some v) o) : ∃ u, o = some u ∧ RelV v u := by
  cases o with
  | none => exact (show False from r).elim
  | some u => exact ⟨u, rfl, r⟩
theorem handed_of {v : V} {u : Value} (r : RelV v u) : PySem.W.handedIn u = true := by
  cases v with
  | non => cases (show u = Value.none from r); rfl
  | bl b => cases (show u = Value.bool b from r); rfl
  | int i => obtain ⟨t, e⟩ := (show ∃ t, u = Value.int i t from r); cases e; rfl
  | str x => obtain ⟨t, e⟩ := (show ∃ t, u = Value.str x t from r); cases e; rfl
  | byt b => obtain ⟨t, e⟩ := (show ∃ t, u = Value.bytes b t from r); cases e; rfl
  | flt b => obtain ⟨t, e⟩ := (show ∃ t, u = Value.float b t from r); cases e; rfl
  | ref a => cases (show u = Value.ref a from r); rfl
  | ty n => cases (show u = Value.type n from r); rfl
section
variable {P : Program} {w : World} {H H' : Hp} {h h' : Heap} {a C dx : Addr} {fs fs' : List (Str × V)}
end
structure Cls (K : PySem.W.Frag) (C : Addr) : Prop where
  pg : PySem.W.plainGet K C Str.empty = true
  hd : PySem.W.hasDictIn K C = true
  po : PySem.W.plainOver K C = true
  sa : PySem.W.findIn K (.ref C) "__setattr__" = some (some (.builtin "object.__setattr__"))
noncomputable def NoAttr (K : PySem.W.Frag) (C : Addr) (f : Str) : Prop := PySem.W.findIn K (.ref C) f = some none
structure Con (K : PySem.W.Frag) (C : Addr) (f : Str) (v : V) (u : Value) : Prop where
  at_ : PySem.W.findIn K (.ref C) f = some (some u)
  rel : RelV v u
  get : PySem.W.specialIn K u "__get__" = some none
  cp : PySem.W.copiedNames.contains f = false
structure Meth (K : PySem.W.Frag) (C : Addr) (m : Str) (f : Addr) : Prop where
  at_ : PySem.W.findIn K (.ref C) m = some (some (.ref f))
  fn : PySem.W.isFn K (.ref f) = true
  kp : PySem.W.keepIn K (.ref f) = true
section
variable {X : Cx} {pins : List (Addr × Obj)} {σ : St} {H : Hp} {s : Shared} {a C dx : Addr} {fs : List (Str × V)} {f : Str} {v : V} {A : Around} {E : Value → Shared → Prop}
theorem attr_of {prog : Program} {w : World} {env : Env} {e : Expr} {f : Str} {pos : Pos} {s : Shared} {Q : Value → Shared → Prop} (hb : attributeBase e f env (eval e env) = eval e env)
    (h : wpAny (model prog w) A (eval e env) (fun o s₁ => wpAny (model prog w) A (getAttr o f true) Q E s₁) E s) : wpAny (model prog w) A (eval (.Attribute e f pos) env) Q E s :=
  Attribute_any_ h (by rw [arm_eval_Attribute, hb])
end
noncomputable def tFld (K : PySem.W.Frag) (ta : TE) (f : Str) : TE := fun σ H Q => ta σ H fun x H1 => ∃ a C dx fs v, x = .ref a ∧ H1 a = some (.ins C dx fs) ∧ Cls K C ∧ NoAttr K C f ∧ fs.lookup f = some v ∧ Q v H1
noncomputable def sFld (K : PySem.W.Frag) (ta tv : TE) (f : Str) : TS := fun D σ H => tv σ H fun y H1 => ta σ H1 fun x H2 => ∃ a C dx fs, x = .ref a ∧ H2 a = some (.ins C dx fs) ∧ Cls K C ∧ NoAttr K C f ∧ fs.length < 1000 ∧
  D.nx σ (upd H2 a (.ins C dx (putF f y fs)))
section
variable {X : Cx} {o e value : Expr} {f : Str} {pos pos' tpos : Pos} {ta tv : TE}
end
section
variable {X : Cx} {pins : List (Addr × Obj)} {σ : St} {H : Hp} {s : Shared} {A : Around} {E : Value → Shared → Prop} {Q : Value → Shared → Prop} {c : Value} {b : Bool}
inductive TyOf (K : PySem.W.Frag) (H : Hp) : V → Value → Prop where
  | non : TyOf K H .non (.type "NoneType")
  | bl (x : Bool) : TyOf K H (.bl x) (.type "bool")
  | int (i : Int) : TyOf K H (.int i) (.type "int")
  | str (x : Str) : TyOf K H (.str x) (.type "str")
  | flt (x : UInt64) : TyOf K H (.flt x) (.type "float")
  | lst {a : Addr} {xs : List V} (e : H a = some (.lst xs)) : TyOf K H (.ref a) (.type "list")
  | frz {a : Addr} {o : Obj} {xs : List V} (e : H a = some (.frz o (.lst xs))) : TyOf K H (.ref a) (.type "list")
  | tup {a : Addr} {xs : List V} (e : H a = some (.tup xs)) : TyOf K H (.ref a) (.type "tuple")
  | dK {a : Addr} {kvs : List (Key × V)} (e : H a = some (.dK kvs)) : TyOf K H (.ref a) (.type "dict")
  | dT {a : Addr} {kvs : List (List Key × V)} (e : H a = some (.dT kvs)) : TyOf K H (.ref a) (.type "dict")
  | ins {a C dx : Addr} {fs : List (Str × V)} (e : H a = some (.ins C dx fs)) (cl : Cls K C) (ha : PySem.W.findIn K (.ref C) "__class__" = some (some (.builtin "object.__class__")))
      (hn : PySem.W.specialIn K (.builtin "object.__class__") "__get__" = some (some (.builtin "getset_descriptor.__get__"))) (htk : PySem.W.takesIn K (.builtin "object.__class__") = some true)
      (hm : PySem.W.mroIn K C (.type "object") = some true) : TyOf K H (.ref a) (.ref C)
end
end L2
namespace L2
open PySem PySem.Spec PyProof.Rows
structure Room (k : Nat) (A : Around) : Prop where
  hd : A.handled = none
  dp : A.depth + 3 * k + 5 < recursionLimit
  un : A.units + 16 * k + 200 < cLine
theorem Room.mono {j k : Nat} {A : Around} (r : Room k A) (h : j ≤ k) : Room j A := ⟨r.hd, by have := r.dp; omega, by have := r.un; omega⟩
theorem Room.deeper {k : Nat} {A : Around} (r : Room (k + 1) A) (env : Env) : Room k (A.deeper env) :=
  ⟨r.hd, by have := r.dp; show A.depth + 1 + 3 * k + 5 < _; omega, by have := r.un; show A.units + 3 + 16 * k + 200 < _; omega⟩
theorem make_depth {A : Around} {C : Addr} {us : List Value} {kw : List (Str × Value)} : (A.under (.builtin "type.__call__" ⟨.ref C :: us, kw⟩)).depth = A.depth + 1 := by
  first | rfl | simp [Around.under, Code.weight, Code.isCreation, Code.isGuard, Code.isCaller, Code.frames, Code.isFrame, guardIds]
theorem make_units {A : Around} {C : Addr} {us : List Value} {kw : List (Str × Value)} : (A.under (.builtin "type.__call__" ⟨.ref C :: us, kw⟩)).units = A.units + 1 := by
  first | rfl | simp [Around.under, Code.cUnits, Code.frames, Code.isFrame]
theorem Room.make {k : Nat} {A : Around} (r : Room (k + 1) A) (C : Addr) (us : List Value) (kw : List (Str × Value)) : Room k (A.under (.builtin "type.__call__" ⟨.ref C :: us, kw⟩)) :=
  ⟨r.hd, by have := r.dp; rw [make_depth]; omega, by have := r.un; rw [make_units]; omega⟩
theorem Room.depth {k : Nat} {A : Around} (r : Room k A) : A.depth < recursionLimit := by have := r.dp; omega
theorem Room.units {k : Nat} {A : Around} (r : Room k A) : A.units + 64 < cLine := by have := r.un; omega
noncomputable def tNil : TA := fun _ H Q => Q [] H
noncomputable def tCons (ta : TE) (tr : TA) : TA := fun σ H Q => ta σ H fun x H1 => tr σ H1 fun xs H2 => Q (x :: xs) H2
section
variable {X : Cx} {e : Expr} {es : List Expr} {te : TE} {t : TA} {pos : Pos}
theorem pa_nil : PA X [] tNil := fun _ _ _ _ H Q I h => Calls.spliced_nil ⟨[], H, I, .nil, h⟩
theorem pa_cons (ha : PE X e te) (hr : PA X es t) (hs : starEach (e :: es) X.env = (false, eval e X.env) :: starEach es X.env := by rfl) : PA X (e :: es) (tCons te t) := by
  intro pos pins s σ H Q I h
  rw [hs]
  show wpAny _ _ (spliced ((false, eval e X.env) :: backTo pos (starEach es X.env))) _ _ s
  refine Calls.spliced_cons (thn (ha pins s σ H _ I h) fun u s1 ⟨x, H1, I1, r1, q1⟩ => ?_)
  exact thn (hr pos pins s1 σ H1 _ I1 q1) fun us s2 ⟨xs, H2, I2, r2, q2⟩ => ⟨x :: xs, H2, I2, .cons r1 r2, q2⟩
noncomputable def tTup (t : TA) : TE := fun σ H Q => t σ H fun xs H1 => xs.length ≤ sizeLine ∧ ∀ p, H1 p = none → Q (.ref p) (upd H1 p (.tup xs))
noncomputable def tLst (t : TA) : TE := fun σ H Q => t σ H fun xs H1 => xs.length ≤ sizeLine ∧ ∀ p, H1 p = none → Q (.ref p) (upd H1 p (.lst xs))
theorem pe_tup {x1} (h : PA X es t) : PE X (.Tuple es x1 pos) (tTup t) := by
  intro pins s σ H Q I hq
  refine wpAny_Tuple_spliced (thn (h pos pins s σ H _ I hq) fun us s1 ⟨xs, H1, I1, r, z, q⟩ => ⟨by rw [← r.length]; exact z, ?_⟩)
  have hf : H1 s1.heap.objs.size = none := I1.hok.fresh (Nat.le_refl _)
  refine ⟨.ref s1.heap.objs.size, upd H1 s1.heap.objs.size (.tup xs), I1.laid (t' := s1.toks) (fun b u e => Heap.get?_push_of_some _ e) (Nat.le_refl _) ?_, rfl, q _ hf⟩
  exact ⟨z, us, r, ⟨_, Heap.get?_push_size _ rfl, rfl, _, rfl⟩⟩
theorem pe_lst (h : PA X es t) : PE X (.List es pos) (tLst t) := by
  intro pins s σ H Q I hq
  refine wpAny_List_spliced (thn (h pos pins s σ H _ I hq) fun us s1 ⟨xs, H1, I1, r, z, q⟩ => ⟨by rw [← r.length]; exact z, ?_⟩)
  have hf : H1 s1.heap.objs.size = none := I1.hok.fresh (Nat.le_refl _)
  refine ⟨.ref s1.heap.objs.size, upd H1 s1.heap.objs.size (.lst xs), I1.laid (t' := s1.toks) (fun b u e => Heap.get?_push_of_some _ e) (Nat.le_refl _) ?_, rfl, q _ hf⟩
  exact ⟨z, us, 0, r, Heap.get?_push_size _ rfl⟩
end
noncomputable abbrev Sp := List V → Hp → VK → XK → Prop
noncomputable abbrev CXT := List Env → Hp → Shared → XK → Value → Shared → Prop
structure Env0 (P : Program) (w : World) (K : PySem.W.Frag) (mg : Str → Option Value) (base : Heap) (A : Around) (outer : List Env) (s : Shared) (H : Hp) : Prop where
  frames : A.frames = some outer
  mod : Mod K mg base
  bs : ∀ b o, base.get? b = some o → s.heap.get? b = some o ∧ H b = none
  bsz : base.objs.size ≤ s.heap.objs.size
  funs : s.heap.FunFrames base outer
  frf : ∀ b ∈ frs outer, H b = none
  hok : HOk P w H s.heap
  bare : AllBare s.gens
noncomputable def CE (outer : List Env) (P : Program) (w : World) (H : Hp) (s : Shared) (Q : VK) (u : Value) (s' : Shared) : Prop :=
  ∃ v H', s'.os = s.os ∧ AllBare s'.gens ∧ Un (frs outer) [] H H' s.heap s'.heap ∧ HOk P w H' s'.heap ∧ RelV v u ∧ Q v H'
noncomputable def CR (CX : CXT) (outer : List Env) (P : Program) (w : World) (H : Hp) (s : Shared) (Q : VK) (E : XK) (r : Result) (s' : Shared) : Prop :=
  match r with
  | .ok (.ret u) => CE outer P w H s Q u s'
  | .ok _ => False
  | .error e => CX outer H s E e s'
structure FnOk (P : Program) (w : World) (K : PySem.W.Frag) (mg : Str → Option Value) (base : Heap) (CX : CXT) (k : Nat) (f : Addr) (fd : FuncData) (ps : List Str) (sp : Sp) : Prop where
  len : ∀ vs H Q E, sp vs H Q E → vs.length = ps.length
  run : ∀ (A : Around) (outer : List Env) (s : Shared) (H : Hp) (args : Args) (us : List Value) (vs : List V) (Q : VK) (E : XK), Room k A → Env0 P w K mg base A outer s H → BindsTo s fd args (ps.zip us) → Vals vs us → sp vs H Q E →
    codeAny (model P w) A (.call (.ref f) args) (CR CX outer P w H s Q E) s
theorem FnOk.imp {P : Program} {w : World} {K : PySem.W.Frag} {mg : Str → Option Value} {base : Heap} {CX : CXT} {k : Nat} {f : Addr} {fd : FuncData} {ps : List Str} {sp sp' : Sp} (F : FnOk P w K mg base CX k f fd ps sp)
    (h : ∀ vs H Q E, sp' vs H Q E → sp vs H Q E) : FnOk P w K mg base CX k f fd ps sp' :=
  ⟨fun vs H Q E q => F.len vs H Q E (h _ _ _ _ q), fun A outer s H args us vs Q E hr he hb hv hs => F.run A outer s H args us vs Q E hr he hb hv (h _ _ _ _ hs)⟩
theorem Env0.make {P : Program} {w : World} {K : PySem.W.Frag} {mg : Str → Option Value} {base : Heap} {A : Around} {outer : List Env} {s : Shared} {H : Hp} (e : Env0 P w K mg base A outer s H) (C : Addr) (us : List Value) (kw : List (Str × Value)) :
    Env0 P w K mg base (A.under (.builtin "type.__call__" ⟨.ref C :: us, kw⟩)) outer s H := ⟨by first | exact e.frames | (simpa [Around.under, Code.envs, Code.isFrame, pushEnvs] using e.frames), e.mod, e.bs, e.bsz, e.funs, e.frf, e.hok, e.bare⟩
section
variable {X : Cx} {pins : List (Addr × Obj)} {σ : St} {H : Hp} {s s' : Shared}
theorem Inv.env0 (I : Inv X pins σ H s) : Env0 X.prog X.w X.K X.mg X.base X.A X.stack s H :=
  ⟨I.ok.frames, I.ok.mod, I.bs, Nat.le_trans I.ok.bsz I.sz, I.stack, I.stkFree, I.hok, I.bare⟩
theorem Inv.after {Q : VK} {u : Value} (I : Inv X pins σ H s) (h : CE X.stack X.prog X.w H s Q u s') : EP X pins σ Q u s' := by
  obtain ⟨v, H', os, bare, un, hok, r, q⟩ := h
  obtain ⟨hh, g, d, t, os'⟩ := s'
  obtain rfl : os' = s.os := os
  exact ⟨v, H', I.call (h' := hh) (g' := g) (d' := d) (t' := t) (ch := []) un hok bare (fun b z => absurd z (by simp)), r, q⟩
end
noncomputable def tCall (sp : Sp) (dvs : List V) (E : XK) (t : TA) : TE := fun σ H Q => t σ H fun vs H1 => sp (vs ++ dvs) H1 Q E
noncomputable def tMeth (C : Addr) (m : Str) (sp : Sp) (dvs : List V) (E : XK) (ta : TE) (t : TA) : TE := fun σ H Q => ta σ H fun x H1 => ∃ a dx fs, x = .ref a ∧ H1 a = some (.ins C dx fs) ∧ fs.lookup m = none ∧
  t σ H1 fun vs H2 => sp (x :: (vs ++ dvs)) H2 Q E
noncomputable def tMake (C : Addr) (sp : Sp) (dvs : List V) (E : XK) (t : TA) : TE := fun σ H Q => t σ H fun vs H1 => ∀ x dx, H1 x = none → H1 dx = none → dx ≠ x →
  sp (.ref x :: (vs ++ dvs)) (upd (upd H1 dx (.own x)) x (.ins C dx [])) (fun v H2 => v = .non ∧ Q (.ref x) H2) E
noncomputable def Binds (K : PySem.W.Frag) (fd : FuncData) (ps : List Str) (ds : List Value) : Prop :=
  ∀ (s : Shared) (us : List Value), K.In s.heap → (us ++ ds).length = ps.length → BindsTo s fd ⟨us, []⟩ (ps.zip (us ++ ds))
theorem Binds.all {K : PySem.W.Frag} {fd : FuncData} {ps : List Str} (h : ∀ us : List Value, us.length = ps.length → bindArgs fd ⟨us, []⟩ = pure (ps.zip us)) : Binds K fd ps [] := fun s us _ hl => by
  rw [List.append_nil] at hl ⊢
  exact .of_eq (h us hl)
noncomputable def Passes (CX : CXT) (X : Cx) (E : XK) : Prop := ∀ (pins : List (Addr × Obj)) (σ : St) (H : Hp) (s : Shared) (e : Value) (s' : Shared), Inv X pins σ H s → CX X.stack H s E e s' → X.xe e s'
section
variable {X : Cx} {CX : CXT} {k : Nat} {f C : Addr} {fd : FuncData} {ps : List Str} {sp : Sp} {dvs : List V} {ds : List Value} {E : XK} {x m : Str} {p pos apos : Pos} {e o : Expr} {es : List Expr} {ta : TE} {t : TA}
theorem run_fn {pins : List (Addr × Obj)} {σ : St} {H : Hp} {s : Shared} {Q : VK} {us : List Value} {vs : List V} (F : FnOk X.prog X.w X.K X.mg X.base CX k f fd ps sp) (hr : Room k X.A) (hb : Binds X.K fd ps ds) (hd : Vals dvs ds) (hx : Passes CX X E)
    (I : Inv X pins σ H s) (r : Vals vs us) (h : sp (vs ++ dvs) H Q E) : wpAny (model X.prog X.w) X.A (call (.ref f) us) (EP X pins σ Q) X.xe s := by
  have r2 : Vals (vs ++ dvs) (us ++ ds) := r.append hd
  have hl : (us ++ ds).length = ps.length := by rw [← r2.length]; exact F.len _ _ _ _ h
  refine wpAny_call (codeAny_mono (F.run X.A X.stack s H ⟨us, []⟩ (us ++ ds) (vs ++ dvs) Q E hr I.env0 (hb s us I.kIn hl) r2 h) fun r s' hq => ?_)
  cases r with
  | error e => exact hx pins σ H s e s' I hq
  | ok fl =>
    cases fl with
    | ret u => exact I.after hq
    | next => exact False.elim hq
    | brk => exact False.elim hq
    | cont => exact False.elim hq
theorem pe_call (F : FnOk X.prog X.w X.K X.mg X.base CX k f fd ps sp) (hr : Room k X.A) (hg : Gl X x) (hm : X.mg x = some (.ref f)) (hk : PySem.W.keepIn X.K (.ref f) = true) (hb : Binds X.K fd ps ds) (hd : Vals dvs ds) (hx : Passes CX X E)
    (ha : PA X (e :: es) t) (hdb : (x == ("__debug__" : Str)) = false := by decide) (he : starEach (e :: es) X.env = (false, eval e X.env) :: starEach es X.env := by rfl) (hpl : (backTo pos (starEach es X.env)).any (·.1) = false := by rfl) :
    PE X (.Call (.Name x p) (e :: es) [] pos) (tCall sp dvs E t) := by
  intro pins s σ H Q I h
  refine wpAny_Call_Name_kw (ld_glob I hg hm ?_ hdb)
  refine PySem.W.callWith_K (h₀ := X.base) I.ok.mod.kin hk (thn (ha pos pins s σ H _ I h) fun us s1 ⟨vs, H1, I1, r, q⟩ => ⟨I1.kIn, ?_⟩) he hpl
  exact run_fn F hr hb hd hx I1 r q
structure Mk (K : PySem.W.Frag) (C f : Addr) : Prop where
  makes : PySem.W.makesIn K C = true
  init : PySem.W.findIn K (.ref C) "__init__" = some (some (.ref f))
  fn : PySem.W.isFn K (.ref f) = true
  kp : PySem.W.keepIn K (.ref C) = true
end
section
variable {X : Cx} {CX : CXT} {k : Nat} {f C : Addr} {fd : FuncData} {ps ks : List Str} {sp : Sp} {E : XK} {x m : Str} {p pos apos kpos : Pos} {e o : Expr} {es : List Expr} {kws : List Keyword} {te ta : TE} {t tk : TA} {nm : Option Str}
structure KBinds (K : PySem.W.Frag) (fd : FuncData) (ps ks : List Str) (g : List Value → List Value → List Value) (gV : List V → List V → List V) : Prop where
  to : ∀ (s : Shared) (us ws : List Value), K.In s.heap → (g us ws).length = ps.length → BindsTo s fd ⟨us, ks.zip ws⟩ (ps.zip (g us ws))
  rel : ∀ {vs : List V} {us : List Value} {zs : List V} {ws : List Value}, Vals vs us → Vals zs ws → Vals (gV vs zs) (g us ws)
variable {g : List Value → List Value → List Value} {gV : List V → List V → List V}
end
structure FnScope (N P : List Str) (sc : Scope) : Prop where
  kind : sc.kind = .function
  co : sc.isCoroutine = false
  gen : sc.isGenerator = false
  nd : N.Nodup
  pre : N.take P.length = P
  par : ∀ x ∈ P, sc.names.lookup x = some .local ∨ sc.names.lookup x = some .cell
  nofree : ∀ y ∈ sc.names, y.2 ≠ .free
theorem bindL_out {kindOf : Str → Option NameKind} {x : Str} : ∀ {binds : List (Str × Value)} {m : Str → Option Value}, (∀ v, (x, v) ∉ binds) → bindL kindOf binds m x = m x
  | [], _, _ => rfl
  | (n, v) :: r, m, h => by
    unfold bindL
    rw [bindL_out fun w hw => h w (List.mem_cons_of_mem _ hw)]
    split
    · have : x ≠ n := by rintro rfl; exact h v List.mem_cons_self
      simp [this]
    · rfl
theorem bindC_out {kindOf : Str → Option NameKind} {x : Str} : ∀ {binds : List (Str × Value)} {m : Str → Option Value}, (∀ v, (x, v) ∉ binds) → bindC kindOf binds m x = m x
  | [], _, _ => rfl
  | (n, v) :: r, m, h => by
    unfold bindC
    rw [bindC_out fun w hw => h w (List.mem_cons_of_mem _ hw)]
    split
    · rfl
    · have : x ≠ n := by rintro rfl; exact h v List.mem_cons_self
      simp [this]
theorem bindL_get {kindOf : Str → Option NameKind} {x : Str} {v : Value} : ∀ {P : List Str} {vs : List Value} {i : Nat} {m : Str → Option Value}, P.Nodup → P[i]? = some x → vs[i]? = some v → kindOf x = some .local →
    bindL kindOf (P.zip vs) m x = some v
  | [], _, _, _, _, h, _, _ => by simp at h
  | _ :: _, [], _, _, _, _, h, _ => by simp at h
  | p :: P, w :: vs, 0, m, nd, h1, h2, hk => by
    simp at h1 h2; subst h1; subst h2
    show bindL kindOf ((p, w) :: P.zip vs) m p = _
    unfold bindL
    rw [bindL_out fun v hv => (List.nodup_cons.mp nd).1 (List.of_mem_zip hv).1, if_pos hk]
    simp
  | p :: P, w :: vs, i + 1, m, nd, h1, h2, hk => by
    show bindL kindOf ((p, w) :: P.zip vs) m x = _
    unfold bindL
    exact bindL_get (i := i) (List.nodup_cons.mp nd).2 (by simpa using h1) (by simpa using h2) hk
theorem bindC_get {kindOf : Str → Option NameKind} {x : Str} {v : Value} : ∀ {P : List Str} {vs : List Value} {i : Nat} {m : Str → Option Value}, P.Nodup → P[i]? = some x → vs[i]? = some v → kindOf x ≠ some .local →
    bindC kindOf (P.zip vs) m x = some v
  | [], _, _, _, _, h, _, _ => by simp at h
  | _ :: _, [], _, _, _, _, h, _ => by simp at h
  | p :: P, w :: vs, 0, m, nd, h1, h2, hk => by
    simp at h1 h2; subst h1; subst h2
    show bindC kindOf ((p, w) :: P.zip vs) m p = _
    unfold bindC
    rw [bindC_out fun v hv => (List.nodup_cons.mp nd).1 (List.of_mem_zip hv).1, if_neg hk]
    simp
  | p :: P, w :: vs, i + 1, m, nd, h1, h2, hk => by
    show bindC kindOf ((p, w) :: P.zip vs) m x = _
    unfold bindC
    exact bindC_get (i := i) (List.nodup_cons.mp nd).2 (by simpa using h1) (by simpa using h2) hk
noncomputable def start (N : List Str) (vs : List V) : St := vs.map some ++ List.replicate (N.length - vs.length) none
noncomputable def cxOf (CX : CXT) (P : Program) (w : World) (K : PySem.W.Frag) (mg : Str → Option Value) (base : Heap) (N : List Str) (qual : Str) (scope : Scope) (f : Addr) (cd : Value) (A : Around) (outer : List Env) (s : Shared) (H : Hp) (E : XK) : Cx where
  prog := P
  w := w
  K := K
  mg := mg
  base := base
  A := A.deeper (envOfC qual scope s.heap.objs.size f cd)
  N := N
  s₀ := s
  H₀ := H
  env := envOfC qual scope s.heap.objs.size f cd
  outer := outer
  stack := envOfC qual scope s.heap.objs.size f cd :: outer
  ex := []
  calm := true
  fn := fun _ => true
  pn := []
  xe := fun e s' => wpAny (model P w) (A.deeper (envOfC qual scope s.heap.objs.size f cd)) (leaving (envOfC qual scope s.heap.objs.size f cd) e) (fun _ s'' => CX outer H s E e s'') (fun e' s'' => CX outer H s E e' s'') s'
theorem cell_has {sc : Scope} {n : Nat} {x : Str} (h : sc.names.lookup x = some .cell) : ∃ c, (cellsFrom n sc.names []).lookup x = some c := by
  have q := PySem.W.cellsFrom_some sc.names n [] (.inl h)
  exact Option.isSome_iff_exists.mp q
theorem inv_start {CX : CXT} {P : Program} {w : World} {K : PySem.W.Frag} {mg : Str → Option Value} {base : Heap} {N ps : List Str} {qual : Str} {scope : Scope} {f : Addr} {cd : Value} {A : Around} {outer : List Env} {s s1 : Shared} {H : Hp} {E : XK} {us : List Value} {vs : List V}
    (S : FnScope N ps scope) (hd : A.handled = none) (e0 : Env0 P w K mg base A outer s H) (hl : vs.length = ps.length) (r : Vals vs us)
    (x : InCallC s s.heap.objs.size (bindL (envOfC qual scope s.heap.objs.size f cd).kindOf (ps.zip us) fun _ => none) (cellsFrom (s.heap.objs.size + 1) scope.names []) (bindC (envOfC qual scope s.heap.objs.size f cd).kindOf (ps.zip us) fun _ => none) s1) :
    Inv (cxOf CX P w K mg base N qual scope f cd A outer s H E) [] (start N vs) H s1 := by
  have hpl : ps.length ≤ N.length := by have := congrArg List.length S.pre; rw [List.length_take] at this; omega
  obtain ⟨h1, tk, rfl, hk⟩ := x.done
  have noA : ∀ b : Addr, b ∉ (cxOf CX P w K mg base N qual scope f cd A outer s H E).ex := fun b z => absurd (show b ∈ ([] : List Addr) from z) (by simp)
  refine ⟨⟨e0.mod, S.kind, rfl, rfl, Nat.le_refl _, fun y z c h1 h2 => ?_, fun y hy => ?_, fun y c _ h => ?_, fun _ => hd, Around.frames_deeper e0.frames, .inr ⟨rfl, rfl⟩, fun b z => absurd z (noA b), e0.bs, e0.bsz, fun b _ _ => noA b, fun b z => absurd z (noA b), e0.funs, e0.frf⟩,
    rfl, e0.bare, Un.kept hk, ⟨_, x.toInCall.ns, fun i y v h1 h2 h3 => ?_⟩, fun y c h => ⟨_, x.cell y c h⟩, e0.hok.fresh (Nat.le_refl _), fun y c h => ?_, fun p hp => absurd (show p ∈ ([] : List (Addr × Obj)) from hp) (by simp), e0.hok.kept hk, ?_⟩
  · exact name_of_addr x.apart (PySem.mem_of_lookup h1) (PySem.mem_of_lookup h2)
  · have hy : scope.names.lookup y = some .cell ∨ scope.names.lookup y = some .free := hy
    rcases hy with hy | hy
    · exact cell_has hy
    · exact absurd rfl (S.nofree _ (PySem.mem_of_lookup hy))
  · exact Nat.le_of_lt (x.above y c (PySem.mem_of_lookup h))
  · have hi : i < vs.length := by
      unfold start at h2
      by_cases hi : i < vs.length
      · exact hi
      · rw [List.getElem?_append_right (by simpa using hi)] at h2
        rw [List.getElem?_replicate] at h2
        split at h2 <;> cases h2
    have ha : vs[i]? = some v := by
      unfold start at h2
      rw [List.getElem?_append_left (by simpa using hi), List.getElem?_map] at h2
      cases e : vs[i]? with
      | none => rw [e] at h2; cases h2
      | some a => rw [e] at h2; cases h2; rfl
    obtain ⟨u, hu, rv⟩ := r.get ha
    have hp : ps[i]? = some y := by
      rw [← S.pre, List.getElem?_take_of_lt (by omega)]; exact h1
    have ndP : ps.Nodup := by rw [← S.pre]; exact S.nd.sublist (List.take_sublist _ _)
    refine ⟨u, rv, ?_⟩
    rcases S.par y (List.mem_of_getElem? hp) with k | k
    · exact .inl ⟨k, bindL_get ndP hp hu k⟩
    · obtain ⟨c, e⟩ := cell_has (n := s.heap.objs.size + 1) k
      refine .inr ⟨.inl k, c, e, ?_⟩
      have q := x.cell y c e
      rw [bindC_get ndP hp hu (by show scope.names.lookup y ≠ _; rw [k]; decide)] at q
      exact q
  · exact e0.hok.fresh (Nat.le_of_lt (x.above y c (PySem.mem_of_lookup h)))
  · unfold start
    show _ = N.length
    rw [List.length_append, List.length_map, List.length_replicate]
    omega
theorem fn_of {CX : CXT} {P : Program} {w : World} {K : PySem.W.Frag} {mg : Str → Option Value} {base : Heap} {k : Nat} {f : Addr} {name qual : Str} {params : Arguments} {body : List Stmt} {scope : Scope} {dV kV doc pm cdv ct oc : Value} {an od : Option Addr}
    {osl : Array (Option Value)} {N ps : List Str} {sp : Sp} (lk : K.lookup f = some ⟨oc, od, .func (PySem.W.fnOf name qual params body scope dV kV doc pm an cdv ct), osl⟩) (hcd : PySem.W.codeIn K cdv qual = true) (S : FnScope N ps scope)
    (len : ∀ vs H Q E, sp vs H Q E → vs.length = ps.length)
    (hbody : ∀ (A : Around) (outer : List Env) (s : Shared) (H : Hp) (vs : List V) (Q : VK) (E : XK), Room k (A.deeper (envOfC qual scope s.heap.objs.size f cdv)) → sp vs H Q E →
      ∃ t, PSs (cxOf CX P w K mg base N qual scope f cdv A outer s H E) body t ∧ t { nx := fun _ H' => Q .non H', rt := Q } (start N vs) H) :
    FnOk P w K mg base CX (k + 1) f (PySem.W.fnOf name qual params body scope dV kV doc pm an cdv ct) ps sp := by
  refine ⟨len, fun A outer s H args us vs Q E hr e0 hb r hsp => ?_⟩
  have hl := len _ _ _ _ hsp
  have KX : K.In s.heap := e0.mod.kin.keeps fun b o e => (e0.bs b o e).1
  have lim : s.heap.NoLimit := e0.mod.nolimit.keeps fun b o e => (e0.bs b o e).1
  have hkind : ∀ y ∈ ps.zip us, scope.names.lookup y.1 = some .local ∨ (scope.names.lookup y.1 = some .cell ∧ ((cellsFrom (s.heap.objs.size + 1) scope.names []).lookup y.1).isSome = true) := fun ⟨n, v⟩ hy => by
    rcases S.par n (List.of_mem_zip hy).1 with q | q
    · exact .inl q
    · exact .inr ⟨q, PySem.W.cellsFrom_some _ _ _ (.inl q)⟩
  refine codeAny_call_function hr.depth (KX _ _ lk) rfl S.co S.gen rfl (PySem.W.codeRec_of KX hcd) (hb _ _ _ _ ?_)
  refine wpAny_newFunctionEnv_cells S.kind hkind fun env he s1 x => ?_
  subst he
  refine ⟨lim.keeps x.toInCall.keep, codeAny_func ?_⟩
  obtain ⟨t, ht, hq⟩ := hbody A outer s H vs Q E (hr.deeper _) hsp
  have I : Inv (cxOf CX P w K mg base N qual scope f cdv A outer s H E) [] (start N vs) H s1 := inv_start S hr.hd e0 hl r x
  refine wpAny_mono (ht [] s1 (start N vs) H _ I hq) (fun fl s' hs => ?_) fun e s' hs => hs
  have fin : ∀ {σ' : St} {H' : Hp} {v : V} {u : Value}, Inv (cxOf CX P w K mg base N qual scope f cdv A outer s H E) [] σ' H' s' → RelV v u → Q v H' → CE outer P w H s Q u s' :=
    fun {σ' H' v u} J rv q => ⟨v, H', J.os, J.bare, J.base, J.hok, rv, q⟩
  cases fl with
  | ret u =>
    obtain ⟨v, σ', H', J, rv, q⟩ := hs
    exact fin J rv q
  | next =>
    obtain ⟨σ', H', J, q⟩ := hs
    exact fin (v := V.non) (u := Value.none) J rfl q
  | brk =>
    obtain ⟨_, _, _, q⟩ := hs
    exact False.elim q
  | cont =>
    obtain ⟨_, _, _, q⟩ := hs
    exact False.elim q
end L2
namespace L2
open PySem PySem.Spec PyProof.Rows
section
variable {X : Cx} {x : Str} {p pos : Pos} {e : Expr} {es : List Expr} {t : TA} {id T : String} {r : List V → Hp → VK → Prop}
noncomputable def tCB (r : List V → Hp → VK → Prop) (t : TA) : TE := fun σ H Q => t σ H fun vs H1 => r vs H1 Q
theorem pe_callB (hc : CallR X (.builtin id) r) (hg : Gl X x) (hm : X.mg x = none) (hv : bootBuiltins x = some (.builtin id)) (ha : PA X (e :: es) t) (hn : x ≠ "__name__" := by decide) (hdb : (x == ("__debug__" : Str)) = false := by decide)
    (he : starEach (e :: es) X.env = (false, eval e X.env) :: starEach es X.env := by rfl) (hpl : (backTo pos (starEach es X.env)).any (·.1) = false := by rfl) : PE X (.Call (.Name x p) (e :: es) [] pos) (tCB r t) := by
  intro pins s σ H Q I h
  refine wpAny_Call_Name_kw (ld_blt I hg hm hv ?_ hn hdb)
  exact PyProof.Rows.callWith_builtin1 (thn (ha pos pins s σ H _ I h) fun us s1 ⟨vs, H1, I1, r1, q1⟩ => hc pins s1 σ H1 vs us Q I1 r1 q1) he hpl
theorem pe_callTy (hc : CallR X (.type T) r) (hg : Gl X x) (hm : X.mg x = none) (hv : bootBuiltins x = some (.type T)) (ha : PA X (e :: es) t) (hn : x ≠ "__name__" := by decide) (hdb : (x == ("__debug__" : Str)) = false := by decide)
    (he : starEach (e :: es) X.env = (false, eval e X.env) :: starEach es X.env := by rfl) (hpl : (backTo pos (starEach es X.env)).any (·.1) = false := by rfl) : PE X (.Call (.Name x p) (e :: es) [] pos) (tCB r t) := by
  intro pins s σ H Q I h
  refine wpAny_Call_Name_kw (ld_blt I hg hm hv ?_ hn hdb)
  exact PyProof.Rows.callWith_type1 (thn (ha pos pins s σ H _ I h) fun us s1 ⟨vs, H1, I1, r1, q1⟩ => hc pins s1 σ H1 vs us Q I1 r1 q1) he hpl
end
end L2
namespace HT
open PySem PyProof.Rows
section
open PySem.SeqAt
open PySem.AutoSeq1 (wpAny_loadPart')
open PySem.MeetsSeq PySem.MeetsSeq2 PySem.MeetsSeq3
end
section
variable {prog : Program} {w : World} {A : Around} {E : Value → Shared → Prop} {s : Shared}
theorem cat_tup {t b : Addr} {vs ws : List Value} {Q : Value → Shared → Prop} (ht : IsTup s.heap t vs.toArray) (hb : IsTup s.heap b ws.toArray) (hv : vs ≠ [])
    (h1 : ws = [] → Q (.ref t) s) (h2 : ws ≠ [] → Q (.ref s.heap.objs.size) { s with heap := s.heap.push { cls := .type "tuple", data := .seq (vs ++ ws).toArray } })
    (hsz : vs.length + ws.length ≤ sizeLine) : wpAny (model prog w) A (binaryOp .Add (.ref t) (.ref b)) Q E s := by
  obtain ⟨⟨cls, dd, data, sl⟩, ho, hc, n, hd⟩ := id ht
  obtain ⟨⟨cls2, dd2, data2, sl2⟩, ho2, hc2, n2, hd2⟩ := id hb
  simp only at hc hd hc2 hd2
  subst hc hd hc2 hd2
  have e : vs.toArray ++ ws.toArray = (vs ++ ws).toArray := by simp
  by_cases hw : ws = []
  · exact concat_meets ⟨_, ho, rfl⟩ ⟨_, ho2, rfl⟩ noFill_tuple_add seq_tuple_add PySem.F.slot_tuple_add PySem.F.entry_tuple_add (PySem.F.args_tuple_add_2 _ _)
      (tuple_addW1 t b vs.toArray ws.toArray n n2 dd dd2 sl sl2 (by simpa using hv) (by simp [hw])) ⟨ho, ho2, h1 hw⟩
  · refine concat_meets ⟨_, ho, rfl⟩ ⟨_, ho2, rfl⟩ noFill_tuple_add seq_tuple_add PySem.F.slot_tuple_add PySem.F.entry_tuple_add (PySem.F.args_tuple_add_2 _ _)
      (tuple_addW2 t b vs.toArray ws.toArray n n2 dd dd2 sl sl2 (by simpa using hv) (by simpa using hw) (by rw [List.size_toArray, List.size_toArray]; exact hsz)) ⟨ho, ho2, ?_⟩
    rw [e]
    exact h2 hw
noncomputable def sIx (n d : Nat) : Option Int → Nat
  | none => d
  | some v => if v < 0 then (v + (n : Int)).toNat else min v.toNat n
theorem sIx_none (n d : Nat) : sIx n d none = d := rfl
theorem sIx_nat (n d k : Nat) : sIx n d (some (k : Int)) = min k n := by
  show (if (k : Int) < 0 then ((k : Int) + (n : Int)).toNat else min (k : Int).toNat n) = min k n
  rw [if_neg (by omega), Int.toNat_natCast]
theorem sIx_le (n d : Nat) (hd : d ≤ n) (o : Option Int) : sIx n d o ≤ n := by
  cases o with
  | none => exact hd
  | some v =>
    show (if v < 0 then (v + (n : Int)).toNat else min v.toNat n) ≤ n
    by_cases hv : v < 0
    · rw [if_pos hv]; omega
    · rw [if_neg hv]; exact Nat.min_le_right _ _
theorem clip_eq (v : Int) (n d : Nat) : (if v < 0 then max (v + (n : Int)) 0 else min v (n : Int)) = ((sIx n d (some v) : Nat) : Int) := by
  show (if v < 0 then max (v + (n : Int)) 0 else min v (n : Int)) = (((if v < 0 then (v + (n : Int)).toNat else min v.toNat n) : Nat) : Int)
  by_cases hv : v < 0
  · simp only [if_pos hv]; omega
  · simp only [if_neg hv]; omega
theorem adjust_gen (lo hi : Option Int) (n : Nat) : Builtin.Slice.sliceAdjust lo hi 1 (n : Int) = (((sIx n 0 lo : Nat) : Int), ((sIx n n hi : Nat) : Int)) := by
  have h1 : ¬ ((1 : Int) < 0) := by omega
  unfold Builtin.Slice.sliceAdjust
  simp only [h1, if_false]
  refine Prod.ext ?_ ?_
  · cases lo with
    | none => rfl
    | some v => exact clip_eq v n 0
  · cases hi with
    | none => rfl
    | some v => exact clip_eq v n n
theorem places_gen (i j : Nat) : Builtin.Slice.slicePlaces (i : Int) (j : Int) 1 = j - i := by
  unfold Builtin.Slice.slicePlaces
  have h1 : (1 : Int) > 0 := by omega
  simp only [h1, if_true, Int.ediv_one]
  split <;> omega
theorem slicePart_ {v : Value} {o : Option Int} {Q : Option Int → Shared → Prop} (p : IsPart v o) (h : Q o s) : wpAny (model prog w) A (Builtin.Slice.slicePartIndex v) Q E s := by
  cases p with
  | none => exact slicePart_none h
  | int i t => exact slicePart_int h
theorem sliceApplied_gen {sl : Addr} {vl vu : Value} {lo hi : Option Int} {n : Nat} {Q : Int × Int × Nat → Shared → Prop} (hs : s.heap.IsSliceOf sl vl vu .none) (pl : IsPart vl lo) (pu : IsPart vu hi)
    (h : Q (((sIx n 0 lo : Nat) : Int), 1, sIx n n hi - sIx n 0 lo) s) : wpAny (model prog w) A (Builtin.Slice.sliceApplied (.ref sl) (pure (n : Int))) Q E s := by
  obtain ⟨os, hos, hcs, hds⟩ := id hs
  unfold Builtin.Slice.sliceApplied Builtin.Slice.sliceFields
  refine wpAny_bind (wpAny_bind (wpAny_field hos hds (x := vl) rfl (wpAny_bind (wpAny_field hos hds (x := vu) rfl (wpAny_bind (wpAny_field hos hds (x := .none) rfl (wpAny_pure ?_)))))))
  refine wpAny_bind (slicePart_none ?_)
  show wpAny _ _ (if ((1 : Int) == 0) = true then _ else _) _ _ s
  rw [if_neg (by decide)]
  refine wpAny_bind (slicePart_ pl (wpAny_bind (slicePart_ pu (wpAny_bind (wpAny_pure ?_)))))
  show wpAny _ _ (match Builtin.Slice.sliceAdjust lo hi 1 (n : Int) with | (lo, hi) => pure (lo, (1 : Int), Builtin.Slice.slicePlaces lo hi 1)) _ _ s
  rw [adjust_gen lo hi n]
  show wpAny _ _ (pure (((sIx n 0 lo : Nat) : Int), (1 : Int), Builtin.Slice.slicePlaces ((sIx n 0 lo : Nat) : Int) ((sIx n n hi : Nat) : Int) 1)) _ _ s
  rw [places_gen]
  exact wpAny_pure h
theorem pick_gen (xs : Array Value) (i k : Nat) : ((List.range k).filterMap fun (m : Nat) => xs[((i : Int) + (m : Int) * 1).toNat]?).toArray = ((xs.toList.drop i).take k).toArray := by
  have e : (fun (m : Nat) => xs[((i : Int) + (m : Int) * 1).toNat]?) = fun m => xs[i + m]? := by
    funext m
    have : ((i : Int) + (m : Int) * 1).toNat = i + m := by omega
    rw [this]
  rw [e]
  have := pick_run xs i k
  rw [List.filterMap_map] at this
  have e2 : ((fun x => xs[x]?) ∘ fun x => i + x) = fun m => xs[i + m]? := rfl
  rw [e2] at this
  rw [this]
theorem getItem_tuple_cut {t sl : Addr} {items : Array Value} {vl vu : Value} {lo hi : Option Int} {Q : Value → Shared → Prop} (ht : IsTup s.heap t items) (hs : s.heap.IsSliceOf sl vl vu .none) (pl : IsPart vl lo) (pu : IsPart vu hi)
    (hw : ¬ (sIx items.size 0 lo = 0 ∧ sIx items.size items.size hi = items.size))
    (h : Q (.ref s.heap.objs.size) { s with heap := s.heap.push { cls := .type "tuple", data := .seq ((items.toList.drop (sIx items.size 0 lo)).take (sIx items.size items.size hi - sIx items.size 0 lo)).toArray } })
    (hsz : items.size ≤ sizeLine) : wpAny (model prog w) A (getItem (.ref t) (.ref sl)) Q E s := by
  have htake : sizeOk (.seq ((items.toList.drop (sIx items.size 0 lo)).take (sIx items.size items.size hi - sIx items.size 0 lo)).toArray) := by
    show ((items.toList.drop (sIx items.size 0 lo)).take (sIx items.size items.size hi - sIx items.size 0 lo)).toArray.size ≤ sizeLine
    rw [List.size_toArray, List.length_take, List.length_drop, Array.length_toList]
    omega
  have hj : sIx items.size items.size hi ≤ items.size := sIx_le _ _ (Nat.le_refl _) hi
  obtain ⟨os, hos, hcs, hds⟩ := id hs
  have hTs : s.TypeIs (.ref sl) "slice" := ⟨os, hos, hcs⟩
  unfold getItem
  try with_reducible refine wpAny_holding ?_
  first | refine wpAny_bind (wpAny_pure ?_) | skip
  refine wpAny_bind (wpAny_sequenceKey ht.typeIs (by decide) ?_)
  refine wpAny_bind (wpAny_callSpecial?_slot (name := Str.ofString "__getitem__") ht.typeIs PyProof.Rows.slot_tuple_getitem
    (wpAny_call_entry PyProof.Rows.slot_tuple_getitem ht.typeIs entry_tuple_getitem ?_ (args_tuple_getitem _ _)))
  show wpAny _ _ (Builtin.Tuple.tupleItemsOf (.ref t) >>= _) _ _ s
  refine wpAny_bind (tupleItemsOf_ ht ?_)
  refine wpAny_bind (wpAny_typeOf hTs ?_)
  rw [if_pos (by decide)]
  refine wpAny_bind (sliceApplied_gen hs pl pu ?_)
  have hno : ¬ ((((sIx items.size 0 lo : Nat) : Int) == 0 && (1 : Int) == 1 && (sIx items.size items.size hi - sIx items.size 0 lo) == items.size) = true) := by
    intro q
    rw [Bool.and_eq_true, Bool.and_eq_true] at q
    have q1 : ((sIx items.size 0 lo : Nat) : Int) = 0 := eq_of_beq q.1.1
    have q2 : sIx items.size items.size hi - sIx items.size 0 lo = items.size := eq_of_beq q.2
    exact hw ⟨by omega, by omega⟩
  show wpAny _ _ (if (((sIx items.size 0 lo : Nat) : Int) == 0 && (1 : Int) == 1 && (sIx items.size items.size hi - sIx items.size 0 lo) == items.size) = true then _ else _) _ _ s
  rw [if_neg hno, pick_gen]
  first
    | exact wpAny_bind (m := Builtin.Tuple.tupleExact _) (wpAny_newObj_type (wpAny_pure ⟨_, rfl, wpAny_pure h⟩) htake)
    | exact wpAny_bind (m := Builtin.Tuple.tupleExact _) (wpAny_newObj_type (wpAny_bind (wpAny_pure (wpAny_pure ⟨_, rfl, wpAny_pure h⟩))) htake)
    | exact wpAny_bind (wpAny_bind (m := Builtin.Tuple.tupleExact _) (wpAny_newObj_type (wpAny_pure (wpAny_pure ⟨_, rfl, wpAny_pure h⟩)) htake))
    | exact wpAny_bind (wpAny_bind (m := Builtin.Tuple.tupleExact _) (wpAny_newObj_type (wpAny_pure ⟨_, rfl, wpAny_pure h⟩) htake))
end
end HT
namespace L2
open PySem PySem.Spec PyProof.Rows
noncomputable abbrev TO := St → Hp → (Option Int → Hp → Prop) → Prop
noncomputable def PO (X : Cx) (e : Option Expr) (t : TO) : Prop :=
  ∀ (pins : List (Addr × Obj)) (s : Shared) (σ : St) (H : Hp) (Q : Option Int → Hp → Prop), Inv X pins σ H s → t σ H Q →
    wpAny (model X.prog X.w) X.A (evalPart e X.env) (fun u s' => ∃ o H', Inv X pins σ H' s' ∧ IsPart u o ∧ Q o H') X.xe s
noncomputable def tNoPart : TO := fun _ H Q => Q none H
noncomputable def tPart (t : TE) : TO := fun σ H Q => t σ H fun x H1 => ∃ i, x = .int i ∧ Q (some i) H1
theorem intsAre_of {ns : List Int} : ∀ {us : List Value}, Vals (ns.map V.int) us → IntsAre us ns := by
  induction ns with
  | nil => intro us r; rw [List.map_nil] at r; cases r; exact .nil
  | cons n ns ih =>
    intro us r
    rw [List.map_cons] at r
    cases r with
    | cons r1 r2 =>
      obtain ⟨t, e⟩ := r1
      subst e
      exact .cons n t (ih r2)
section
variable {X : Cx} {e : Expr} {te : TE} {lo hi : Option Expr} {tl th : TO} {pos p2 : Pos}
theorem po_none : PO X none tNoPart := by
  intro pins s σ H Q I h
  rw [evalPart_none]
  exact wpAny_pure ⟨none, H, I, .none, h⟩
theorem po_some (h : PE X e te) : PO X (some e) (tPart te) := by
  intro pins s σ H Q I hw
  rw [evalPart_some]
  refine thn (h pins s σ H _ I hw) fun u s1 ⟨x, H1, I1, r1, q1⟩ => ?_
  obtain ⟨i, rfl, q⟩ := q1
  obtain ⟨t, rfl⟩ := r1
  exact ⟨some i, H1, I1, .int i t, q⟩
noncomputable def SlR (X : Cx) (r : V → Option Int → Option Int → Hp → VK → Prop) : Prop :=
  ∀ (pins : List (Addr × Obj)) (s : Shared) (σ : St) (H : Hp) (x : V) (v vl vu : Value) (lo hi : Option Int) (sl : Addr) (Q : VK), Inv X pins σ H s → RelV x v → s.heap.IsSliceOf sl vl vu .none → IsPart vl lo → IsPart vu hi → r x lo hi H Q →
    ∃ T id, typeLookup (.type T) "__getitem__" = pure (some (.builtin id)) ∧ s.TypeIs v T ∧ wpAny (model X.prog X.w) X.A (getItem v (.ref sl)) (EP X pins σ Q) X.xe s
noncomputable def tSl (r : V → Option Int → Option Int → Hp → VK → Prop) (te : TE) (tl th : TO) : TE := fun σ H Q => te σ H fun x H1 => tl σ H1 fun l H2 => th σ H2 fun u H3 => r x l u H3 Q
theorem pe_slice {r : V → Option Int → Option Int → Hp → VK → Prop} (hr : SlR X r) (he : PE X e te) (hl : PO X lo tl) (hu : PO X hi th) : PE X (.Subscript e (.Slice lo hi none p2) pos) (tSl r te tl th) := by
  intro pins s σ H Q I h
  refine Subscript_ (thn (he pins s σ H _ I h) fun v s1 ⟨x, H1, I1, r1, q1⟩ => ?_)
  refine wpAny_Slice (thn (hl pins s1 σ H1 _ I1 q1) fun vl s2 ⟨l, H2, I2, pl, q2⟩ => thn (hu pins s2 σ H2 _ I2 q2) fun vu s3 ⟨u, H3, I3, pu, q3⟩ => ?_)
  rw [evalPart_none]
  refine wpAny_pure ?_
  have I4 : Inv X pins σ H3 { s3 with heap := s3.heap.push { cls := .type "slice", data := .fields #[vl, vu, .none] } } := I3.kept (t' := s3.toks) fun b ob q => Heap.get?_push_of_some _ q
  obtain ⟨T, id, hT, ht, hg⟩ := hr pins { s3 with heap := s3.heap.push { cls := .type "slice", data := .fields #[vl, vu, .none] } } σ H3 x v vl vu l u s3.heap.objs.size Q I4 r1 (Heap.IsSliceOf.new ..) pl pu q3
  show wpAny (model X.prog X.w) X.A (subscriptTail e (.Slice lo hi none p2) v (.ref s3.heap.objs.size)) (EP X pins σ Q) X.xe { s3 with heap := s3.heap.push { cls := .type "slice", data := .fields #[vl, vu, .none] } }
  exact tail_any (ops := [.ref s3.heap.objs.size, v]) ht hT hg (by with_unfolding_all rfl)
noncomputable def cutV (xs : List V) (lo hi : Option Int) : List V := (xs.drop (HT.sIx xs.length 0 lo)).take (HT.sIx xs.length xs.length hi - HT.sIx xs.length 0 lo)
theorem cutV_length (xs : List V) (lo hi : Option Int) : (cutV xs lo hi).length ≤ xs.length := by
  unfold cutV
  rw [List.length_take, List.length_drop]
  omega
noncomputable def rSlT (K : PySem.W.Frag) : V → Option Int → Option Int → Hp → VK → Prop := fun x lo hi H Q => ∃ a xs, x = .ref a ∧ SqT K H a xs ∧
  ¬ (HT.sIx xs.length 0 lo = 0 ∧ HT.sIx xs.length xs.length hi = xs.length) ∧ ∀ p, H p = none → Q (.ref p) (upd H p (.tup (cutV xs lo hi)))
theorem sl_tup : SlR X (rSlT X.K) := by
  intro pins s σ H x v vl vu lo hi sl Q I rx hs pl pu h
  obtain ⟨a, xs, rfl, hx, hw, q⟩ := h
  cases rx
  obtain ⟨its, r, ht, hz⟩ := I.tuple hx
  have hlen : its.toArray.size = xs.length := by rw [List.size_toArray]; exact r.length.symm
  refine ⟨"tuple", _, PyProof.Rows.slot_tuple_getitem.lookup, ht.typeIs, ?_⟩
  refine HT.getItem_tuple_cut ht hs pl pu (by rw [hlen]; exact hw) ?_ (by rw [hlen]; exact hz)
  rw [hlen]
  refine ⟨.ref s.heap.objs.size, _, I.laid (t' := s.toks) (o := .tup (cutV xs lo hi)) (fun b ob q => Heap.get?_push_of_some _ q) (Nat.le_refl _) ?_, rfl, q _ (I.hok.fresh (Nat.le_refl _))⟩
  exact ⟨Nat.le_trans (cutV_length xs lo hi) hz, _, (r.drop (HT.sIx xs.length 0 lo)).take (HT.sIx xs.length xs.length hi - HT.sIx xs.length 0 lo), IsTup.new _ _⟩
noncomputable def rCatT (K : PySem.W.Frag) : R2 := fun x y H Q => ∃ a b xs ys, x = .ref a ∧ y = .ref b ∧ SqT K H a xs ∧ SqT K H b ys ∧ xs ≠ [] ∧ xs.length + ys.length ≤ sizeLine ∧
  (ys = [] → Q (.ref a) H) ∧ (ys ≠ [] → ∀ p, H p = none → Q (.ref p) (upd H p (.tup (xs ++ ys))))
theorem Vals.nil_iff {xs : List V} {us : List Value} (r : Vals xs us) : us = [] ↔ xs = [] := by
  cases r with
  | nil => simp
  | cons _ _ => simp
theorem op_catT : OpR X (binaryOp .Add) (rCatT X.K) := by
  intro pins s σ H x y v u Q I rx ry h
  obtain ⟨a, b, xs, ys, rfl, rfl, ha, hb, hx, hz, q1, q2⟩ := h
  cases rx
  cases ry
  obtain ⟨its, r1, p1, _⟩ := I.tuple ha
  obtain ⟨its2, r2, p2, _⟩ := I.tuple hb
  refine HT.cat_tup p1 p2 (fun z => hx (r1.nil_iff.mp z)) (fun z => ⟨.ref a, H, I, rfl, q1 (r2.nil_iff.mp z)⟩) (fun z => ?_) (by rw [← r1.length, ← r2.length]; exact hz)
  refine ⟨.ref s.heap.objs.size, _, I.laid (t' := s.toks) (o := .tup (xs ++ ys)) (fun b ob q => Heap.get?_push_of_some _ q) (Nat.le_refl _) ?_, rfl, q2 (fun w => z (r2.nil_iff.mpr w)) _ (I.hok.fresh (Nat.le_refl _))⟩
  exact ⟨by rw [List.length_append]; exact hz, _, r1.append r2, IsTup.new _ _⟩
end
end L2
namespace L2
open PySem PySem.Spec PyProof.Rows
noncomputable def ixN (n : Nat) (i : Int) : Option Nat := if 0 ≤ i then (if i < n then some i.toNat else none) else if -(n : Int) ≤ i then some (i + n).toNat else none
noncomputable def atI {α : Type} (xs : List α) (i : Int) : Option α := (ixN xs.length i).bind fun j => xs[j]?
theorem ixN_seq {n : Nat} {i : Int} {j : Nat} (h : ixN n i = some j) : seqIndex? i n = some j ∧ j < n ∧ -(n : Int) ≤ i ∧ i < n := by
  unfold ixN at h
  by_cases h0 : 0 ≤ i
  · rw [if_pos h0] at h
    by_cases h1 : i < n
    · rw [if_pos h1] at h
      have e : i.toNat = j := Option.some.inj h
      exact ⟨by rw [seqIndex_of h0 h1, e], by omega, by omega, h1⟩
    · rw [if_neg h1] at h; cases h
  · rw [if_neg h0] at h
    by_cases h1 : -(n : Int) ≤ i
    · rw [if_pos h1] at h
      have e : (i + n).toNat = j := Option.some.inj h
      exact ⟨by rw [seqIndex_neg (by omega) h1, e], by omega, h1, by omega⟩
    · rw [if_neg h1] at h; cases h
theorem atI_get {α : Type} {xs : List α} {i : Int} {v : α} (h : atI xs i = some v) : ∃ j, seqIndex? i xs.length = some j ∧ xs[j]? = some v ∧ j < xs.length ∧ -(xs.length : Int) ≤ i ∧ i < xs.length := by
  unfold atI at h
  cases e : ixN xs.length i with
  | none => rw [e] at h; cases h
  | some j =>
    rw [e] at h
    obtain ⟨h1, h2, h3, h4⟩ := ixN_seq e
    exact ⟨j, h1, h, h2, h3, h4⟩
theorem atI_nat {α : Type} {xs : List α} {j : Nat} {v : α} (h : xs[j]? = some v) : atI xs (j : Int) = some v := by
  have hj : j < xs.length := (List.getElem?_eq_some_iff.mp h).1
  have e : ixN xs.length (j : Int) = some j := by
    unfold ixN
    rw [if_pos (by omega), if_pos (by omega)]; simp
  unfold atI; rw [e]; exact h
theorem atI_last {α : Type} (xs : List α) (v : α) : atI (xs ++ [v]) (-1) = some v := by
  have hl : (xs ++ [v]).length = xs.length + 1 := by simp
  have e : ixN (xs ++ [v]).length (-1) = some xs.length := by
    unfold ixN
    rw [hl, if_neg (by decide), if_pos (by omega)]
    congr 1
    omega
  unfold atI
  rw [e]
  show (xs ++ [v])[xs.length]? = some v
  simp
noncomputable def PlainIx (b : Expr) : Prop := ∀ o i, subscripted b false o i = operate [o, i] (getItem o i)
noncomputable def IxR (X : Cx) (r : R2) : Prop :=
  ∀ (value slice : Expr) (pins : List (Addr × Obj)) (s : Shared) (σ : St) (H : Hp) (x y : V) (v u : Value) (Q : VK), Inv X pins σ H s → RelV x v → RelV y u → r x y H Q →
    subscripted slice false v u = operate [v, u] (getItem v u) → wpAny (model X.prog X.w) X.A (subscriptTail value slice v u) (EP X pins σ Q) X.xe s
noncomputable def MtR (X : Cx) (id : String) (r : V → List V → Hp → VK → Prop) : Prop :=
  ∀ (pins : List (Addr × Obj)) (s : Shared) (σ : St) (H : Hp) (x : V) (xs : List V) (v : Value) (us : List Value) (Q : VK), Inv X pins σ H s → RelV x v → Vals xs us → r x xs H Q →
    wpAny (model X.prog X.w) X.A (call (.builtin id) (v :: us)) (EP X pins σ Q) X.xe s
section
variable {X : Cx} {a b : Expr} {ta tb : TE} {pos : Pos}
theorem IxR.or {r r' : R2} (h : IxR X r) (h' : IxR X r') : IxR X (fun x y H Q => r x y H Q ∨ r' x y H Q) := by
  intro value slice pins s σ H x y v u Q I rx ry q hs
  rcases q with q | q
  · exact h value slice pins s σ H x y v u Q I rx ry q hs
  · exact h' value slice pins s σ H x y v u Q I rx ry q hs
theorem pe_ix {r : R2} (hr : IxR X r) (ha : PE X a ta) (hb : PE X b tb) (hs : PlainIx b) : PE X (.Subscript a b pos) (tOp r ta tb) := by
  intro pins s σ H Q I h
  exact Subscript_ (binT ha hb I h fun v u s2 x y H2 I2 rx ry q => hr a b pins s2 σ H2 x y v u Q I2 rx ry q (hs _ _))
noncomputable def rIxL (K : PySem.W.Frag) : R2 := fun x y H Q => ∃ p xs i v, x = .ref p ∧ y = .int i ∧ SqL K H p xs ∧ atI xs i = some v ∧ Q v H
noncomputable def rIxT (K : PySem.W.Frag) : R2 := fun x y H Q => ∃ p xs i v, x = .ref p ∧ y = .int i ∧ SqT K H p xs ∧ atI xs i = some v ∧ Q v H
noncomputable def rIxS : R2 := fun x y H Q => ∃ z i c, x = .str z ∧ y = .int i ∧ z.length ≤ sizeLine ∧ atI z.cps.toList i = some c ∧ Q (.str ⟨#[c]⟩) H
theorem ix_list : IxR X (rIxL X.K) := by
  intro value slice pins s σ H x y v u Q I rx ry h hs
  obtain ⟨p, xs, i, z, rfl, rfl, hq, he, q⟩ := h
  cases rx
  obtain ⟨t, rfl⟩ := ry
  obtain ⟨its, r, pl, hz⟩ := I.list hq
  obtain ⟨j, h1, h2, h3, h4, h5⟩ := atI_get he
  obtain ⟨w, ew, rw'⟩ := r.get h2
  have hl := r.length
  have hn := line63
  have fin : EP X pins σ Q w s := ⟨z, H, I, rw', q⟩
  by_cases h0 : 0 ≤ i
  · have hj : i.toNat = j := by
      rw [seqIndex_of h0 h5] at h1
      exact Option.some.inj h1
    exact item_listR pl.isList h0 (by omega) (by rw [hj]; simpa using ew) fin hs
  · have hj : (i + (its.toArray.size : Int)).toNat = j := by
      rw [seqIndex_neg (by omega) h4] at h1
      rw [List.size_toArray, ← hl]
      exact Option.some.inj h1
    exact subscriptTail_builtinR (x := w) pl.isList.typeIs slot_list_getitem.lookup
      (wpAny_getItem_list_neg (Q := fun r s' => r = w ∧ EP X pins σ Q r s') pl.isList (by omega) (by rw [List.size_toArray] <;> omega) (by omega) (by rw [hj]; simpa using ew) ⟨rfl, fin⟩) hs
theorem ix_tup : IxR X (rIxT X.K) := by
  intro value slice pins s σ H x y v u Q I rx ry h hs
  obtain ⟨p, xs, i, z, rfl, rfl, hq, he, q⟩ := h
  cases rx
  obtain ⟨t, rfl⟩ := ry
  obtain ⟨its, r, pl, hz⟩ := I.tuple hq
  obtain ⟨j, h1, h2, h3, h4, h5⟩ := atI_get he
  obtain ⟨w, ew, rw'⟩ := r.get h2
  have hl := r.length
  have hn := line63
  have fin : EP X pins σ Q w s := ⟨z, H, I, rw', q⟩
  exact subscriptTail_builtinR (x := w) pl.typeIs slot_tuple_getitem.lookup
    (getItem_tuple (j := j) (Q := fun r s' => r = w ∧ EP X pins σ Q r s') pl (by omega) (by omega) (by rw [List.size_toArray, ← hl]; exact h1) (by simpa using ew) ⟨rfl, fin⟩) hs
theorem ix_str : IxR X rIxS := by
  intro value slice pins s σ H x y v u Q I rx ry h hs
  obtain ⟨z, i, c, rfl, rfl, hz, he, q⟩ := h
  obtain ⟨t, rfl⟩ := rx
  obtain ⟨t', rfl⟩ := ry
  obtain ⟨j, h1, h2, h3, h4, h5⟩ := atI_get he
  have hl : z.cps.toList.length = z.length := by simp [Str.length]
  rw [hl] at h1 h4 h5
  have hn := line63
  exact tail_any (typeIs_str s z t) slot_str_getitem.lookup (getItem_str (c := c) (by
    have e1 : decide (i < -(2 ^ 63 : Int)) = false := decide_eq_false (by omega)
    have e2 : decide (i ≥ 2 ^ 63) = false := decide_eq_false (by omega)
    rw [e1, e2, Bool.or_false]) (by rw [h1]; simpa using h2) ⟨.str ⟨#[c]⟩, H, I.tok _, ⟨_, rfl⟩, q⟩) hs
noncomputable def rIx (K : PySem.W.Frag) : R2 := fun x y H Q => rIxL K x y H Q ∨ rIxT K x y H Q ∨ rIxS x y H Q
theorem ix_seq : IxR X (rIx X.K) := ix_list.or (ix_tup.or ix_str)
theorem slice_bounds (lo hi : Option Int) (n : Nat) : (sliceBounds lo hi none n).1 = ((HT.sIx n 0 lo : Nat) : Int) ∧ (sliceBounds lo hi none n).2.1 = ((HT.sIx n n hi : Nat) : Int) ∧ (sliceBounds lo hi none n).2.2 = 1 := by
  refine ⟨?_, ?_, rfl⟩
  · cases lo with
    | none => simp [sliceBounds, HT.sIx]
    | some i =>
      simp only [sliceBounds, HT.sIx, Option.getD_none, show (1 : Int) > 0 by decide, if_true]
      by_cases h : i < 0
      · simp only [h, if_true] <;> omega
      · simp only [h, if_false] <;> omega
  · cases hi with
    | none => simp [sliceBounds, HT.sIx]
    | some i =>
      simp only [sliceBounds, HT.sIx, Option.getD_none, show (1 : Int) > 0 by decide, if_true]
      by_cases h : i < 0
      · simp only [h, if_true] <;> omega
      · simp only [h, if_false] <;> omega
theorem slicePick_cut (its : List Value) (lo hi : Option Int) : slicePick its.toArray lo hi none = ((its.drop (HT.sIx its.length 0 lo)).take (HT.sIx its.length its.length hi - HT.sIx its.length 0 lo)).toArray := by
  obtain ⟨h1, h2, h3⟩ := slice_bounds lo hi its.toArray.size
  unfold slicePick
  rw [h1, h2, h3]
  simp only [sliceRange_one, pick_run, List.size_toArray] <;> rfl
noncomputable def rSlL (K : PySem.W.Frag) : V → Option Int → Option Int → Hp → VK → Prop := fun x lo hi H Q => ∃ a xs, x = .ref a ∧ SqL K H a xs ∧ ∀ p, H p = none → Q (.ref p) (upd H p (.lst (cutV xs lo hi)))
theorem sl_list : SlR X (rSlL X.K) := by
  intro pins s σ H x v vl vu lo hi sl Q I rx hs pl pu h
  obtain ⟨a, xs, rfl, hx, q⟩ := h
  cases rx
  obtain ⟨its, r, ht, hz⟩ := I.list hx
  have hlen := r.length
  refine ⟨"list", _, slot_list_getitem.lookup, ht.isList.typeIs, ?_⟩
  refine wpAny_getItem_list_slice ht.isList hs pl pu .none (by simp) ?_ (by rw [List.size_toArray] <;> omega)
  rw [slicePick_cut, ← hlen]
  refine ⟨.ref s.heap.objs.size, _, I.laid (t' := s.toks) (o := .lst (cutV xs lo hi)) (fun b ob q => Heap.get?_push_of_some _ q) (Nat.le_refl _) ?_, rfl, q _ (I.hok.fresh (Nat.le_refl _))⟩
  exact ⟨Nat.le_trans (cutV_length xs lo hi) hz, _, 0, (r.drop (HT.sIx xs.length 0 lo)).take (HT.sIx xs.length xs.length hi - HT.sIx xs.length 0 lo), Heap.get?_push_size _ rfl⟩
theorem CallR.or {f : Value} {r r' : List V → Hp → VK → Prop} (h : CallR X f r) (h' : CallR X f r') : CallR X f (fun xs H Q => r xs H Q ∨ r' xs H Q) := by
  intro pins s σ H xs us Q I rs q
  rcases q with q | q
  · exact h pins s σ H xs us Q I rs q
  · exact h' pins s σ H xs us Q I rs q
theorem call_list_of : CallR X (.type "list") (fun xs H Q => ∃ p ys, xs = [.ref p] ∧ (SqL X.K H p ys ∨ SqT X.K H p ys) ∧ ∀ l, H l = none → Q (.ref l) (upd H l (.lst ys))) := by
  intro pins s σ H xs us Q I r h
  obtain ⟨p, ys, rfl, hq, q⟩ := h
  obtain ⟨u, rfl, rx⟩ := vals1 r
  cases rx
  have fin : ∀ (its : List Value), Vals ys its → ys.length ≤ sizeLine → ∀ (h' : Heap) (c' : Nat), (∀ b o', s.heap.get? b = some o' → h'.get? b = some o') →
      h'.get? s.heap.objs.size = some { cls := .type "list", dict := none, data := .seq its.toArray c', slots := #[] } → EP X pins σ Q (.ref s.heap.objs.size) { s with heap := h' } := fun its r' hz h' c' kp e =>
    ⟨.ref s.heap.objs.size, _, I.laid (t' := s.toks) kp (Nat.le_refl _) (show ObjOk X.prog X.w _ h' _ (.lst ys) from ⟨hz, its, c', r', e⟩), rfl, q _ (I.hok.fresh (Nat.le_refl _))⟩
  rcases hq with hq | hq
  · obtain ⟨its, r', pl, hz⟩ := I.list hq
    have hlen := r'.length
    obtain ⟨o, ho, hc, n, hd⟩ := pl.isList
    exact call_list_seq p (.inl rfl) ho hc hd (fun h' c' kp e => fin its r' hz h' c' kp e) (by simp only [List.size_toArray] <;> omega)
  · obtain ⟨its, r', pl, hz⟩ := I.tuple hq
    have hlen := r'.length
    obtain ⟨o, ho, hc, n, hd⟩ := pl
    exact call_list_seq p (.inr rfl) ho hc hd (fun h' c' kp e => fin its r' hz h' c' kp e) (by simp only [List.size_toArray] <;> omega)
theorem call_tuple_of : CallR X (.type "tuple") (fun xs H Q => ∃ p ys, xs = [.ref p] ∧ ((SqL X.K H p ys ∧ ∀ l, H l = none → Q (.ref l) (upd H l (.tup ys))) ∨ (SqT X.K H p ys ∧ Q (.ref p) H))) := by
  intro pins s σ H xs us Q I r h
  obtain ⟨p, ys, rfl, h⟩ := h
  obtain ⟨u, rfl, rx⟩ := vals1 r
  cases rx
  rcases h with ⟨hq, q⟩ | ⟨hq, q⟩
  · obtain ⟨its, r', pl, hz⟩ := I.list hq
    have hlen := r'.length
    refine call_tuple_list pl.isList (fun h' kp => ?_) (by simp only [List.size_toArray] <;> omega)
    have I1 : Inv X pins σ H { s with heap := h' } := I.kept (t' := s.toks) kp
    have I2 : Inv X pins σ (upd H h'.objs.size (.tup ys)) { s with heap := h'.push { cls := .type "tuple", data := .seq its.toArray } } :=
      I1.laid (t' := s.toks) (fun b o e => Heap.get?_push_of_some _ e) (Nat.le_refl _) (show ObjOk X.prog X.w _ _ _ (.tup ys) from ⟨hz, its, r', IsTup.new _ _⟩)
    exact ⟨.ref h'.objs.size, _, I2, rfl, q _ (I1.hok.fresh (Nat.le_refl _))⟩
  · obtain ⟨its, r', pl, hz⟩ := I.tuple hq
    exact call_tuple_same pl ⟨.ref p, H, I, rfl, q⟩
noncomputable def tyV (K : PySem.W.Frag) (T : String) (x : V) (H : Hp) : Prop := match x with
  | .str _ => T = "str"
  | .int _ => T = "int"
  | .ref p => (T = "list" ∧ ∃ xs, SqL K H p xs) ∨ (T = "tuple" ∧ ∃ o, K.lookup p = some o ∧ o.cls = .type "tuple" ∧ o.dict = none) ∨
      (T = "dict" ∧ ((∃ kvs, H p = some (.dK kvs)) ∨ ∃ kvs, H p = some (.dT kvs))) ∨ (T = "set" ∧ ∃ S n, H p = some (.set S n))
  | _ => False
theorem tyV_is {pins : List (Addr × Obj)} {σ : St} {H : Hp} {s : Shared} {T : String} {x : V} {v : Value} (I : Inv X pins σ H s) (r : RelV x v) (ty : tyV X.K T x H) :
    s.TypeIs v T ∧ ∀ a, v = .ref a → ∃ ob, s.heap.get? a = some ob ∧ ob.dict = none := by
  cases x with
  | str z =>
    obtain ⟨t, rfl⟩ := r
    cases (show T = "str" from ty)
    exact ⟨typeIs_str s z t, fun _ e => nomatch e⟩
  | int i =>
    obtain ⟨t, rfl⟩ := r
    cases (show T = "int" from ty)
    exact ⟨typeIs_int s i t, fun _ e => nomatch e⟩
  | ref p =>
    cases r
    rcases ty with ⟨rfl, xs, hq⟩ | ⟨rfl, o, hk, hc, hd⟩ | ⟨rfl, hk⟩ | ⟨rfl, S, n, hk⟩
    · obtain ⟨its, _, pl, _⟩ := I.list hq
      refine ⟨pl.isList.typeIs, fun a e => ?_⟩
      cases e
      obtain ⟨o, n, e, c, hd, _⟩ := pl
      exact ⟨o, e, hd⟩
    · refine ⟨⟨o, I.kIn p o hk, hc⟩, fun a e => ?_⟩
      cases e
      exact ⟨o, I.kIn _ o hk, hd⟩
    · have z : ∃ o, s.heap.get? p = some o ∧ o.ExactDict := by
        rcases hk with ⟨kvs, hk⟩ | ⟨kvs, hk⟩
        · obtain ⟨_, _, _, _, o, _, _, e, ex, _⟩ := I.hok p _ hk
          exact ⟨o, e, ex⟩
        · obtain ⟨_, _, _, _, o, _, _, e, ex, _⟩ := I.hok p _ hk
          exact ⟨o, e, ex⟩
      obtain ⟨o, e, ex⟩ := z
      refine ⟨⟨o, e, ex.1⟩, fun a e2 => ?_⟩
      cases e2
      exact ⟨o, e, ex.2.1⟩
    · obtain ⟨o, _, _, _, e, ex, _⟩ := I.hok p _ hk
      refine ⟨⟨o, e, ex.1⟩, fun a e2 => ?_⟩
      cases e2
      exact ⟨o, e, ex.2.1⟩
  | _ => exact False.elim ty
noncomputable def tBM (K : PySem.W.Frag) (T : String) (r : V → List V → Hp → VK → Prop) (to : TE) (t : TA) : TE := fun σ H Q => to σ H fun x H1 => tyV K T x H1 ∧ t σ H1 fun xs H2 => r x xs H2 Q
variable {o e : Expr} {es : List Expr} {to : TE} {t : TA} {name : Str} {apos cpos : Pos} {T id : String} {r : V → List V → Hp → VK → Prop}
theorem pe_bm (pa : PlainAttrs T) (slot : Slot T name id) (hty : typeOf (.builtin id) = pure (.type "method_descriptor")) (hm : MtR X id r) (ho : PE X o to) (ha : PA X (e :: es) t)
    (hbase : attributeBase o name X.env (eval o X.env) = eval o X.env := by rfl)
    (hfew : ((backTo cpos (starEach (e :: es) X.env)).all (fun x => !x.1) && (backToKw cpos (keywordEach [] X.env)).all (fun x => x.1.isSome)
      && decide ((e :: es).length + ([] : List Keyword).length + (if ([] : List Keyword).isEmpty then 0 else 1) < 30)) = true := by rfl)
    (hline : (apos.endLine == cpos.line) = true := by rfl) (hs : starEach (e :: es) X.env = (false, eval e X.env) :: starEach es X.env := by rfl) (hplain : (backTo cpos (starEach es X.env)).any (·.1) = false := by rfl) :
    PE X (.Call (.Attribute o name apos) (e :: es) [] cpos) (tBM X.K T r to t) := by
  intro pins s σ H Q I h
  refine wpAny_Call_method_late hbase hfew hline rfl (thn (ho pins s σ H _ I h) fun v s1 ⟨x, H1, I1, r1, ty, q1⟩ => ?_)
  obtain ⟨h1, h2⟩ := tyV_is I1 r1 ty
  refine ⟨T, id, pa, slot, hty, h1, h2, ?_⟩
  have hA := ha cpos pins s1 σ H1 _ I1 q1
  rw [hs] at hA ⊢
  refine Calls.callWith_builtin (by show (false || (backTo cpos (starEach es X.env)).any (·.1)) = false; rw [hplain] <;> rfl) (Calls.evalArgs_plain ?_)
  exact thn hA fun us s2 ⟨vs, H2, I2, r2, q2⟩ => hm pins s2 σ H2 x vs v us Q I2 r1 r2 q2
/- xs.append(e), list.index on a module's tuple .. are MtR facts of 06m -/
end
end L2
namespace L2
open PySem PySem.Spec PyProof.Rows
noncomputable def MtM (X : Cx) (id : String) (r : V → List V → Hp → VK → Prop) : Prop :=
  ∀ (pins : List (Addr × Obj)) (s : Shared) (σ : St) (H : Hp) (x : V) (xs : List V) (v : Value) (us : List Value) (Q : VK), Inv X pins σ H s → RelV x v → Vals xs us → r x xs H Q →
    wpAny (model X.prog X.w) X.A (call (.builtin id) (v :: us)) (EP X pins σ Q) X.xe s
theorem Vals.one : ∀ {x : V} {us : List Value}, Vals [x] us → ∃ u, us = [u] ∧ RelV x u
  | _, _, .cons r .nil => ⟨_, rfl, r⟩
theorem Vals.rep {xs : List V} {us : List Value} (h : Vals xs us) : ∀ k : Nat, Vals (List.replicate k xs).flatten (List.replicate k us).flatten
  | 0 => .nil
  | k + 1 => by
    rw [List.replicate_succ, List.replicate_succ, List.flatten_cons, List.flatten_cons]
    exact Vals.append h (Vals.rep h k)
theorem foldl_rep (its : List Value) : ∀ (k : Nat) (acc : List Value),
    List.foldl (fun x1 x2 => x1 ++ x2) acc.toArray (List.replicate k its.toArray) = (acc ++ (List.replicate k its).flatten).toArray
  | 0, acc => by simp
  | k + 1, acc => by
    have e : acc.toArray ++ its.toArray = (acc ++ its).toArray := by simp
    have e2 : (acc ++ its) ++ (List.replicate k its).flatten = acc ++ (List.replicate (k + 1) its).flatten := by
      rw [List.replicate_succ, List.flatten_cons, List.append_assoc]
    rw [← e2, ← foldl_rep its k (acc ++ its), ← e, List.replicate_succ, List.foldl_cons]
section
variable {X : Cx} {pins : List (Addr × Obj)} {σ : St} {H : Hp} {s : Shared} {l b : Addr} {xs ys zs : List V}
theorem Inv.lset {its its' : List Value} {n : Nat} {f : Array Value → Array Value} {t' : Nat} (I : Inv X pins σ H s) (hH : H l = some (.lst xs))
    (e : s.heap.get? l = some { cls := .type "list", data := .seq its.toArray n }) (hf : f its.toArray = its'.toArray) (hv : Vals ys its') (hz : ys.length ≤ sizeLine) :
    Inv X pins σ (upd H l (.lst ys)) { s with heap := s.heap.update l (Obj.mapSeq f), toks := t' } := by
  have q := PySem.IsL.update e f
  rw [hf] at q
  refine I.write (x := l) (e := l) (by rw [hH]; exact trivial) (.inl rfl) (fun b' u hb hu => (Heap.get?_update_other s.heap (Obj.mapSeq f) (Ne.symm hb)).trans hu) ⟨_, q⟩ ?_
  exact ⟨hz, its', _, hv, q⟩
theorem Inv.lnew {its : List Value} {t' : Nat} (I : Inv X pins σ H s) (hv : Vals ys its) (hz : ys.length ≤ sizeLine) :
    Inv X pins σ (upd H s.heap.objs.size (.lst ys)) { s with heap := s.heap.push { cls := .type "list", data := .seq its.toArray }, toks := t' } :=
  I.laid (fun _ _ q => Heap.get?_push_of_some _ q) (Nat.le_refl _) ⟨hz, its, 0, hv, Heap.get?_push_size _ rfl⟩
theorem Inv.fresh (I : Inv X pins σ H s) : H s.heap.objs.size = none := I.hok.fresh (Nat.le_refl _)
theorem Inv.lstM (I : Inv X pins σ H s) (hH : H l = some (.lst xs)) : xs.length ≤ sizeLine ∧ ∃ (its : List Value) (n : Nat), Vals xs its ∧ xs.length = its.length ∧ s.heap.get? l = some { cls := .type "list", data := .seq its.toArray n } := by
  obtain ⟨z, its, n, r, e⟩ := I.hok l _ hH
  exact ⟨z, its, n, r, r.length, e⟩
theorem notLongL {n : Nat} (h : n ≤ sizeLine) : Builtin.List.listTooLong n = false := by
  unfold Builtin.List.listTooLong
  exact decide_eq_false (by omega)
end
section
variable {X : Cx}
noncomputable def rAppend : V → List V → Hp → VK → Prop := fun x vs H Q => ∃ l xs y, x = .ref l ∧ vs = [y] ∧ H l = some (.lst xs) ∧ xs.length < sizeLine ∧ Q .non (upd H l (.lst (xs ++ [y])))
theorem mt_append : MtM X "list.append" rAppend := by
  intro pins s σ H x vs v us Q I rx rv h
  obtain ⟨l, xs, y, rfl, rfl, hH, hz, q⟩ := h
  cases rx
  obtain ⟨u, rfl, ru⟩ := rv.one
  obtain ⟨z, its, n, r, hl, e⟩ := I.lstM hH
  refine call_meets F.slot_list_append ⟨_, e, rfl⟩ F.entry_list_append (F.args_list_append_2 _ _) (PySem.list_append l its.toArray n u (by rw [List.size_toArray]; omega)) ⟨e, ?_⟩
  refine ⟨.non, _, I.lset (its' := its ++ [u]) hH e (by simp) (r.append (.cons ru .nil)) ?_, rfl, q⟩
  rw [List.length_append, List.length_singleton]
  omega
theorem len_rep {α : Type} (xs : List α) (k : Nat) : (List.replicate k xs).flatten.length = k * xs.length := by
  induction k with
  | zero => simp
  | succ k ih => rw [List.replicate_succ, List.flatten_cons, List.length_append, ih, Nat.succ_mul, Nat.add_comm]
end
section
variable {prog : Program} {w : World} {A : Around} {E : Value → Shared → Prop} {s : Shared}
set_option maxRecDepth 100000 in
end
section
variable {X : Cx}
end
end L2
namespace Att
open PySem PySem.W PySem.Calls PyProof.Rows
theorem ints_of_wellAll {P : Params} {h : Heap} : ∀ (ns : List Int) (vs : List Value), WellAll P h vs (ns.map WData.int) → IntsAre vs ns := by
  intro ns
  induction ns with
  | nil =>
    intro vs w
    rw [List.map_nil] at w
    cases w
    exact .nil
  | cons n ns ih =>
    intro vs w
    rw [List.map_cons] at w
    cases w with
    | cons a b =>
      cases a
      exact .cons _ _ (ih _ b)
theorem script_of {l : OpenLaw} {n : Nat} (hn : l.most = some n) {P : Params} {h : Heap} {args : List WData} {vals : List Value}
    (hpre : l.row.toRowW.claim.pre args = true) (hwl : WellAll P h vals args) :
    ∃ a vs ns, vals = [Value.ref a] ∧ args = [WData.list (ns.map WData.int)] ∧ h.get? a = some { cls := .type "list", data := .seq vs.toArray } ∧ IntsAre vs ns ∧ ns.length ≤ n := by
  have hsh : WShape.hasAll [] args [.list .int] = true := (pre_splitW hpre).1
  have hc : l.pre.holds [] { args := args } = true := (pre_splitW hpre).2
  obtain ⟨d, r, rfl, h1, h2⟩ := hasAllW_cons hsh
  obtain rfl := hasAllW_nil h2
  obtain ⟨xs, rfl, h3⟩ := hasW_list h1
  obtain ⟨ns, rfl⟩ := items_int h3
  have hlen : ns.length ≤ n := by
    unfold OpenLaw.pre at hc
    have h4 : (WTm.not (.lt (.lit (.int (n : Int))) (.len (.arg 0)))).holds [] { args := [.list (ns.map .int)] } = true := by
      have h4 := (holds_andW hc).1
      rw [hn] at h4
      exact h4
    have h5 := condW_of h4 (w_not (w_lt w_lit (w_len_list (w_arg rfl))))
    rw [List.length_map] at h5
    refine Nat.le_of_not_lt fun q => ?_
    have q' : (n : Int) < ((ns.length : Nat) : Int) := by omega
    first
      | (rw [decide_eq_true q'] at h5; exact absurd h5 (by decide))
      | (simp at h5; omega)
  cases hwl with
  | cons w1 w2 =>
    cases w2
    cases w1 with
    | list ho hall => exact ⟨_, _, ns, rfl, rfl, ho, ints_of_wellAll ns _ hall, hlen⟩
theorem post_true (l : OpenLaw) (args : List WData) : l.row.toRowW.claim.post args (.bool true) args = true :=
  postW_of (r := l.row.toRowW) (X := (true == true))
    (show WShape.has [] (.bool true) .bool = true by first | rfl | decide | simp [WShape.has, WShape.arms, WShape.armsAll])
    (show (WTm.eq .res (.lit (.bool true))).value [] { args := args, res := some (.bool true), after := args } = some (.bool (true == true)) from w_eq_bool (w_res rfl) w_lit) rfl
theorem attach_call {l : OpenLaw} {n : Nat} {q : Program} {loose : List Str} {XP : (Str → Option Value) → Heap → Prop} {YP : World → Heap → Prop} {d : DefRec}
    (hn : l.most = some n) (hdf : d.params.defaults = [])
    (call : ∀ (w : World) (s₀ s₁ : Shared) (mg mb : Str → Option Value) (fa : Addr) (o : Obj) (pm cd doc : Value) (a : Addr) (vs : List Value) (ns : List Int),
      Ground q loose [] XP w s₀ mg mb s₁.heap → YP w s₁.heap →
      s₁.heap.get? fa = some o → o.data = .func (docDef d.name d.params d.body d.scope pm cd doc) → s₁.heap.CodeRec cd d.name → mg d.name = some (.ref fa) →
      s₁.heap.get? a = some { cls := .type "list", data := .seq vs.toArray } → IntsAre vs ns → ns.length ≤ n → s₁.gens = #[] →
      codeAny (model l.prog w) callerA (.call (.ref fa) ⟨[.ref a], []⟩) (fun r s' => r = .ok (.ret (.bool true)) ∧ OldK s₁.heap s'.heap ∧ s'.os = s₁.os ∧ AllBare s'.gens) s₁) :
    WalkO q loose XP YP l.row.toRowW d [] (fun f vs => PySem.call f vs) := by
  intro w s₀ s₁ mg mb G Y fa o pm cd doc dV kV ho hd hcd hD hmg hg args vals as hpre hlay hrd hwl hlo
  obtain rfl : dV = .none := Dflts.none hD hdf
  obtain rfl : kV = .none := Dflts.noKw hD
  obtain ⟨a, vs, ns, rfl, rfl, hobj, hints, hlen⟩ := script_of hn hpre hwl
  refine enter_call (codeAny_mono (call w s₀ s₁ mg mb fa o pm cd doc a vs ns G Y ho (fd_plain hd) hcd hmg hobj hints hlen hg) fun r s' hq => ?_)
  obtain ⟨rfl, h2, h3, h4⟩ := hq
  exact ⟨.inl ⟨.bool true, .bool true, [], rfl, fun _ => rfl, .bool true, post_true l _, fun _ => ⟨List.Pairwise.nil, fun _ hm => (nomatch hm)⟩⟩, h2, h3, h4⟩
section
variable {prog : Program} {w : World} {A : Around} {E : Value → Shared → Prop} {s : Shared} {K : Frag}
end
end Att
namespace L2
open PySem PySem.Spec PyProof.Rows
theorem vals_ints : ∀ {vs : List Value} {ns : List Int}, IntsAre vs ns → Vals (ns.map V.int) vs
  | _, _, .nil => .nil
  | _, _, .cons n t h => .cons ⟨t, rfl⟩ (vals_ints h)
noncomputable def Only (H : Hp) : Prop := ∀ b, H b = none ∨ ∃ o xs, H b = some (.frz o (.lst xs))
theorem law_call {P : Program} {w : World} {K : PySem.W.Frag} {mg mb : Str → Option Value} {CX : CXT} {k : Nat} {fa a : Addr} {fd : FuncData} {x : Str} {sp : Sp} {s₁ : Shared} {vs : List Value} {ns : List Int}
    (KX : K.In s₁.heap) (hns : s₁.heap.Ns mainGlobals mg) (hb : s₁.heap.Ns builtinsNs mb) (hbb : ∀ x : Str, x ≠ "__name__" → mb x = bootBuiltins x) (hlim : s₁.heap.NoLimit) (hg : s₁.gens = #[])
    (ha : s₁.heap.get? a = some { cls := .type "list", data := .seq vs.toArray }) (hi : IntsAre vs ns) (hl : ns.length ≤ sizeLine) (hr : Room k callerA)
    (F : ∀ base : Heap, K.In base → base.Ns mainGlobals mg → FnOk P w K mg base CX k fa fd [x] sp) (hbind : ∀ (s : Shared) (u : Value), BindsTo s fd ⟨[u], []⟩ [(x, u)])
    (hsp : ∀ H : Hp, Only H → SqL K H a (ns.map V.int) → sp [.ref a] H (fun v _ => v = .bl true) fun _ _ _ => False)
    (hCX : ∀ H e s', CX [] H s₁ (fun _ _ _ => False) e s' → False) :
    codeAny (model P w) callerA (.call (.ref fa) ⟨[.ref a], []⟩) (fun r s' => r = .ok (.ret (.bool true)) ∧ OldK s₁.heap s'.heap ∧ s'.os = s₁.os ∧ AllBare s'.gens) s₁ := by
  have rv := vals_ints hi
  have lenV := hi.length
  -- from an abstract heap in which nothing but the script may be tracked
  have core : ∀ H : Hp, Only H → SqL K H a (ns.map V.int) → HOk P w H s₁.heap → (∀ b, H b ≠ none → b = a) → (H a ≠ none → K.lookup a = none) →
      codeAny (model P w) callerA (.call (.ref fa) ⟨[.ref a], []⟩) (fun r s' => r = .ok (.ret (.bool true)) ∧ OldK s₁.heap s'.heap ∧ s'.os = s₁.os ∧ AllBare s'.gens) s₁ := by
    intro H hO hS hok hA hK
    have base_of : ∀ {b : Addr} {o : Obj}, s₁.heap.get? b = some o → H b = none → (hidT s₁.heap H).get? b = some o := fun e n => hidT_get e n
    have noA : ∀ {b : Addr} {o : Obj} {es : Array DictEntry} {ep : Nat}, s₁.heap.get? b = some o → o.data = .dict es ep → H b = none := fun {b o es ep} e d => by
      cases q : H b with
      | none => rfl
      | some u =>
        have e' : b = a := hA b (by rw [q]; simp)
        subst e'
        rw [ha] at e; cases e
        have d' : Data.seq vs.toArray _ = Data.dict es ep := d
        cases d'
    have nsK : ∀ {b : Addr} {m : Str → Option Value}, s₁.heap.Ns b m → (hidT s₁.heap H).Ns b m := fun {b m} ⟨o, es, ep, e, d, r⟩ => ⟨o, es, ep, base_of e (noA e d), d, r⟩
    have hKb : K.In (hidT s₁.heap H) := fun b o e => base_of (KX b o e) (by
      cases q : H b with
      | none => rfl
      | some u =>
        have e' : b = a := hA b (by rw [q]; simp)
        subst e'
        rw [hK (by rw [q]; simp)] at e; cases e)
    have hM : Mod K mg (hidT s₁.heap H) := ⟨hKb, nsK hns, ⟨mb, nsK hb, hbb⟩, let ⟨mc, h1, h2⟩ := hlim; ⟨mc, nsK h1, h2⟩⟩
    have e0 : Env0 P w K mg (hidT s₁.heap H) callerA [] s₁ H := ⟨rfl, hM, fun b o e => of_hidT e, Nat.le_of_eq (hidT_size _ _), trivial, fun b hb => absurd (show b ∈ ([] : List Addr) from hb) (by simp), hok, .of_eq hg⟩
    refine codeAny_mono ((F _ hKb (nsK hns)).run callerA [] s₁ H ⟨[.ref a], []⟩ [.ref a] [.ref a] _ _ hr e0 (hbind s₁ (.ref a)) (.cons rfl .nil) (hsp H hO hS)) fun r s' h => ?_
    cases r with
    | error e => exact (hCX H e s' h).elim
    | ok fl =>
      cases fl with
      | next => exact False.elim h
      | brk => exact False.elim h
      | cont => exact False.elim h
      | ret u =>
        obtain ⟨v, H', os, bare, un, hok', r', q⟩ := h
        have q' : v = .bl true := q
        subst q'
        obtain rfl : u = Value.bool true := r'
        refine ⟨rfl, OldK.of_keep fun b o e => ?_, os, bare⟩
        cases q : H b with
        | none => exact un.keep b o e q (by intro z; exact absurd (show b ∈ ([] : List Addr) from z) (by simp)) (by simp)
        | some u =>
          rcases hO b with z | ⟨ob, xs, z⟩
          · rw [q] at z; cases z
          · have z2 := un.frzs b ob _ z
            obtain ⟨e1, _⟩ := hok b _ z
            obtain ⟨e2, _⟩ := hok' b _ z2
            rw [e] at e1; cases e1
            exact e2
  cases hk : K.lookup a with
  | some o =>
    -- the script is one of the module's own objects
    have e := KX a o hk
    rw [ha] at e
    cases e
    refine core (fun _ => none) (fun _ => .inl rfl) (.inr ⟨_, vs.toArray, _, hk, rfl, rfl, rfl, by rw [List.size_toArray, lenV]; exact hl, by simpa using rv⟩) (fun b u z => by have z' : (none : Option HO) = some u := z; cases z') (fun b z => absurd rfl z) fun z => absurd rfl z
  | none =>
    refine core (fun b => if b = a then some (.frz { cls := .type "list", data := .seq vs.toArray } (.lst (ns.map V.int))) else none) (fun b => ?_) (.inl (.inr ⟨{ cls := .type "list", data := .seq vs.toArray }, if_pos rfl⟩)) (fun b u z => ?_) (fun b z => ?_) fun _ => hk
    · by_cases hb : b = a
      · exact .inr ⟨_, _, if_pos hb⟩
      · exact .inl (if_neg hb)
    · by_cases hb : b = a
      · have z' := (if_pos hb).symm.trans z
        cases z'
        subst hb
        exact ⟨ha, by rw [List.length_map]; exact hl, vs, _, rv, ha⟩
      · have z' := (if_neg hb).symm.trans z
        cases z'
    · by_cases hb : b = a
      · exact hb
      · exact absurd (if_neg hb) z
end L2
namespace L2
open PySem PySem.Spec PyProof.Rows
end L2
/- THE LAST THEOREM (shape; LID, My.* are yours):
   My.Adr: a structure of the addresses that your layer names (classes, functions); My.Txt K t: a structure (Prop) of the equations over K;
   My.txt_mk : {K} {implicit addresses ..} (e1 : nsIn K mainGlobals "law" = some (some (.ref f))) (e2 : K.lookup f = some ⟨oc, od, .func (fnOf "law" "law" params body scope dV kV doc pm an cdv ct), sl⟩) (e3 : codeIn K cdv "law" = true) .. : ∃ t, My.Txt K t
set_option maxRecDepth 100000 in
set_option maxHeartbeats 0 in
theorem PySem.Challenge.cw_LID_holds : PySem.Challenge.rw_LID.Holds := by
  w_on; o_law; k_head; (case hw => w_witness2)
  k_fill
  refine L2.walk_of (l := PySem.Challenge.rw_LID) (n := 63) (k := 40) (x := "script") (CX := fun w => ..) (sp := fun _ => My.sp_law) rfl (by decide) rfl ⟨rfl, by decide, by decide⟩ (fun w h Y => PySem.W.kIn_of Y) ?F ?S ?C
  case F =>
    intro w mg fa h KX G hmg
    have T : ∃ t, My.Txt (L2.KOf KX) t := by
      dsimp only [L2.KOf]                          -- K must stand as «<heap const> w.params» for k_is
      refine' My.txt_mk ?e1 ?e2 ?e3 ..
      (case e1 => PySem.W.k_is)                    -- in the order: a name -> its address -> its object -> its parts
      (case e2 => PySem.W.k_is)
      ..
    obtain ⟨t, T⟩ := T
    have e0 := hmg.symm.trans (PySem.W.mg_of KX G T.law)
    cases e0                                       -- fa is the law's own address
    exact ⟨_, fun s u => .of_eq rfl, fun base kb nb => My.law_fn T kb nb⟩     -- if «.of_eq rfl» comes too early: refine' ⟨_, ?b, fun base kb nb => My.law_fn T kb nb⟩; exact fun s u => .of_eq rfl
  case S => exact fun w H a ns hl hO hS => ..
  case C => exact ..
(the tactic k_is has no namespace: write k_is) -/
namespace L2
open PySem PySem.Spec PyProof.Rows
noncomputable def inClass (s : Stmt) (j : Nat) : Stmt := match s with
  | .ClassDef _ _ _ body _ _ _ _ _ _ _ => body.getD j (.Pass ⟨0, 0, 0, 0⟩)
  | _ => .Pass ⟨0, 0, 0, 0⟩
noncomputable def defArgs (s : Stmt) : Arguments := match s with
  | .FunctionDef _ a _ _ _ _ _ _ _ _ => a
  | _ => { posonlyargs := [], args := [], vararg := none, kwonlyargs := [], kw_defaults := [], kwarg := none, defaults := [] }
noncomputable def defBody (s : Stmt) : List Stmt := match s with
  | .FunctionDef _ _ b _ _ _ _ _ _ _ => b
  | _ => []
noncomputable def defScope (s : Stmt) : Scope := match s with
  | .FunctionDef _ _ _ _ _ _ sc _ _ _ => sc
  | _ => { kind := .function, names := [], isGenerator := false, isCoroutine := false }
noncomputable abbrev CX0 : CXT := fun _ _ _ _ _ _ => False
noncomputable abbrev E0 : XK := fun _ _ _ => False
theorem pass0 {X : Cx} : Passes CX0 X E0 := fun _ _ _ _ _ _ _ h => h.elim
structure Fun (K : PySem.W.Frag) (x qual : Str) (st : Stmt) (f : Addr) (fd : FuncData) : Prop where
  ex : ∃ (oc : Value) (od : Option Addr) (kV doc pm : Value) (an : Option Addr) (cdv ct : Value) (osl : Array (Option Value)),
    fd = PySem.W.fnOf x qual (defArgs st) (defBody st) (defScope st) .none kV doc pm an cdv ct ∧ K.lookup f = some ⟨oc, od, .func fd, osl⟩ ∧ PySem.W.codeIn K cdv qual = true
  kp : PySem.W.keepIn K (.ref f) = true
section
variable {P : Program} {w : World} {K : PySem.W.Frag} {mg : Str → Option Value} {base : Heap}
theorem Fun.ok {x qual : Str} {st : Stmt} {f : Addr} {fd : FuncData} {N ps : List Str} {k : Nat} {sp : Sp} (F : Fun K x qual st f fd) (S : FnScope N ps (defScope st)) (len : ∀ vs H Q E, sp vs H Q E → vs.length = ps.length)
    (hbody : ∀ (cdv : Value) (A : Around) (outer : List Env) (s : Shared) (H : Hp) (vs : List V) (Q : VK) (E : XK), Room k (A.deeper (envOfC qual (defScope st) s.heap.objs.size f cdv)) → sp vs H Q E →
      ∃ t, PSs (cxOf CX0 P w K mg base N qual (defScope st) f cdv A outer s H E).nox (defBody st) t ∧ t { nx := fun _ H' => Q .non H', rt := Q } (start N vs) H) : FnOk P w K mg base CX0 (k + 1) f fd ps sp := by
  obtain ⟨oc, od, kV, doc, pm, an, cdv, ct, osl, rfl, lk, hcd⟩ := F.ex
  refine fn_of lk hcd S len fun A outer s H vs Q E hr hsp => ?_
  obtain ⟨t, h, q⟩ := hbody cdv A outer s H vs Q E hr hsp
  exact ⟨t, h.nox, q⟩
theorem Fun.binds {x qual : Str} {st : Stmt} {f : Addr} {fd : FuncData} {ps : List Str} (F : Fun K x qual st f fd)
    (h : ∀ (kV doc pm : Value) (an : Option Addr) (cdv ct : Value) (us : List Value), us.length = ps.length → bindArgs (PySem.W.fnOf x qual (defArgs st) (defBody st) (defScope st) .none kV doc pm an cdv ct) ⟨us, []⟩ = pure (ps.zip us)) : Binds K fd ps [] := by
  obtain ⟨oc, od, kV, doc, pm, an, cdv, ct, osl, rfl, lk, hcd⟩ := F.ex
  exact .all (h kV doc pm an cdv ct)
theorem fun_mk {x qual : Str} {st : Stmt} {f : Addr} {oc : Value} {od an : Option Addr} {osl : Array (Option Value)} {kV doc pm cdv ct : Value} (l : K.lookup f = some ⟨oc, od, .func (PySem.W.fnOf x qual (defArgs st) (defBody st) (defScope st) .none kV doc pm an cdv ct), osl⟩)
    (c : PySem.W.codeIn K cdv qual = true) (k : PySem.W.keepIn K (.ref f) = true) : Fun K x qual st f (PySem.W.fnOf x qual (defArgs st) (defBody st) (defScope st) .none kV doc pm an cdv ct) := ⟨⟨oc, od, kV, doc, pm, an, cdv, ct, osl, rfl, l, c⟩, k⟩
end
section
variable {X : Cx}
theorem pv (i : Nat) {x : Str} {pos : Pos} (hN : X.N[i]? = some x := by rfl) (hv : Vis X.env.scope x := by first | exact Or.inl rfl | exact Or.inr (Or.inl rfl) | exact Or.inr (Or.inr rfl)) (hd : (x == ("__debug__" : Str)) = false := by decide)
    (hcd : (x == ("__classdict__" : Str)) = false := by decide) : PE X (.Name x pos) (tVar i) := pe_var hN hv hd hcd
end
noncomputable def Same (H H' : Hp) : Prop := ∀ b o, H b = some o → H' b = some o
theorem Same.refl (H : Hp) : Same H H := fun _ _ h => h
theorem Same.trans {H H1 H2 : Hp} (a : Same H H1) (b : Same H1 H2) : Same H H2 := fun c o h => b c o (a c o h)
theorem Same.free {H H' : Hp} (e : Same H H') {l : Addr} (h : H' l = Option.none) : H l = Option.none := by
  cases q : H l with
  | none => rfl
  | some o =>
    rw [e l o q] at h
    cases h
end L2
set_option maxHeartbeats 4000000
namespace L2
open PySem PySem.Spec PyProof.Rows
section
variable {X : Cx} {pins : List (Addr × Obj)} {σ : St} {H : Hp} {s : Shared} {h' : Heap}
theorem Inv.turnedLaid {p : Addr} {o : HO} {t' : Nat} {ch : List Addr} (I : Inv X pins σ H s) (hf : ∀ b ∈ ch, FpOk X pins H b)
    (k : ∀ b u, b ∉ ch → s.heap.get? b = some u → h'.get? b = some u) (hp : s.heap.objs.size ≤ p)
    (new : ObjOk X.prog X.w (upd H p o) h' p o) : Inv X pins σ (upd H p o) { s with heap := h', toks := t' } := by
  have hn : H p = none := I.hok.fresh hp
  have nch : ∀ b u, H b = some u → b ∉ ch := fun b u e z => by rw [(hf b z).1] at e; cases e
  have nep : ∀ b u, s.heap.get? b = some u → b ≠ p := fun b u e => Nat.ne_of_lt (Nat.lt_of_lt_of_le (Heap.lt_size e) hp)
  refine I.step (g' := s.gens) (d' := s.drawn) (ch := ch) (fun b hb => ?_) (fun b u _ _ hc e _ => k b u hc e) (fun b u _ _ hc e _ => ⟨u.slots, k b u hc e⟩)
    (fun b u _ e n => by rw [upd_ne (nep b u e)]; exact n) (fun b u hc e => ⟨u, k b u hc e⟩) (fun b xs e => by rw [upd_ne (ne_of_none e hn)]; exact e)
    (fun b u xs e => by rw [upd_ne (ne_of_none e hn)]; exact e) (fun b ps e => ⟨#[], by rw [upd_ne (ne_of_none e hn), e]; simp⟩) (fun m hm => ?_) (fun b u e => ?_) I.bare
  · obtain ⟨_, h2, _, h4, h5, h6⟩ := hf b hb
    exact ⟨h4, h2, h5, h6⟩
  · obtain ⟨ob, es, ep, ho, r⟩ := hm
    exact ⟨ob, es, ep, k _ ob (fun z => (hf _ z).2.1 rfl) ho, r⟩
  · by_cases hb : b = p
    · subst hb
      rw [upd_same] at e
      cases e
      exact new
    · rw [upd_ne hb] at e
      refine (I.hok b u e).stay (fun c v hc q => k c v ?_ q) (fun c q => by rw [upd_ne (ne_of_none q hn)]; exact q) fun c xs q => by rw [upd_ne (ne_of_none q hn)]; exact q
      rcases hc with z | z
      · rw [z]; exact nch b u e
      · exact nch c _ z
end
noncomputable def Ite (K : PySem.W.Frag) (a : Addr) : It :=
  ⟨fun i H => ∃ xs x, SqL K H a xs ∧ xs[i]? = some x,
   fun i H v H' => ∃ p x, H p = none ∧ v = .ref p ∧ (∀ xs, SqL K H a xs → xs[i]? = some x) ∧ H' = upd H p (.tup [.int i, x]),
   fun i H => ∃ xs, SqL K H a xs ∧ xs.length ≤ i⟩
theorem turn_enum {P : Program} {w : World} {K : PySem.W.Frag} {elts : List Expr} {kk} {tp : Pos} (a e it : Addr) (hne : e ≠ it) :
    Turn P w K (.Tuple elts kk tp) (Ite K a) [e, it] e (fun i h => (∃ old, IsEnum h e it i old) ∧ h.IsListIter it a i) where
  mem := by simp
  obj := fun i h st b hb => by
    obtain ⟨⟨old, he⟩, o, ho, _, d⟩ := st
    rcases List.mem_cons.mp hb with z | hb
    · subst z
      exact ⟨_, he, fun v z => by cases (show Data.fields _ = Data.cell v from z)⟩
    · have z : b = it := by simpa using hb
      subst z
      exact ⟨o, ho, fun v z => by rw [d] at z; cases z⟩
  keep := fun i h h' st k => by
    obtain ⟨⟨old, he⟩, hit⟩ := st
    exact ⟨⟨old, k e (by simp) _ he⟩, hit.at fun o q => k it (by simp) o q⟩
  item := by
    intro X hP hw hK hc i pins s σ H E I hf st hg
    subst hP hw hK
    obtain ⟨⟨old, he⟩, hit⟩ := st
    obtain ⟨xs, x, hq, hx⟩ := hg
    obtain ⟨its, rv, p, hz⟩ := I.list hq
    obtain ⟨u, hu, ru⟩ := rv.get hx
    refine wpAny_pyNext_enum_item he hit p.isList (x := u) (by simpa using hu) hne fun h1 ho hit1 hT hsz hk => ⟨_, rfl, ?_⟩
    refine wpAny_letOwnedTupleGo_enum (s := { s with heap := h1, toks := s.toks + 1 }) ho fun h2 he2 hs2 => ?_
    have hel : e < s.heap.objs.size := Heap.lt_size he
    have hil : it < s.heap.objs.size := by obtain ⟨_, z, _⟩ := hit; exact Heap.lt_size z
    have hn : H s.heap.objs.size = none := I.hok.fresh (Nat.le_refl _)
    have kk : ∀ b o, b ∉ [e, it] → s.heap.get? b = some o → h2.get? b = some o := fun b o hb q => by
      have h3 : b ≠ e := fun z => hb (by simp [z])
      have h4 : b ≠ it := fun z => hb (by simp [z])
      exact (hs2.2 b h3).trans (hk b o h3 h4 q)
    have hT2 : h2.get? s.heap.objs.size = some { cls := .type "tuple", data := .seq #[.int i s.toks, u] } := (hs2.2 _ (Nat.ne_of_gt hel)).trans hT
    have I2 : Inv X pins σ (upd H s.heap.objs.size (.tup [.int i, x])) { s with heap := h2, toks := s.toks + 1 } :=
      I.turnedLaid (ch := [e, it]) hf kk (Nat.le_refl _) ⟨by show 2 ≤ sizeLine; decide, [.int i s.toks, u], .cons ⟨_, rfl⟩ (.cons ru .nil), ⟨_, hT2, rfl, _, rfl⟩⟩
    refine ⟨.ref s.heap.objs.size, _, I2, rfl, ⟨_, x, hn, rfl, fun ys hy => by rw [I.list_inj hy hq]; exact hx, rfl⟩, ⟨⟨u, he2⟩, hit1.at fun o q => (hs2.2 it hne.symm).trans q⟩, fun b hb => ?_⟩
    have hb2 : b ≠ s.heap.objs.size := by
      rcases List.mem_cons.mp hb with z | hb
      · rw [z]; exact Nat.ne_of_lt hel
      · rw [show b = it by simpa using hb]; exact Nat.ne_of_lt hil
    rw [upd_ne hb2]
    exact (hf b hb).1
  done := by
    intro X hP hw hK hc i pins s σ H E I hf st hg
    subst hP hw hK
    obtain ⟨⟨old, he⟩, hit⟩ := st
    obtain ⟨xs, hq, hx⟩ := hg
    obtain ⟨its, rv, p, hz⟩ := I.list hq
    obtain ⟨f0, f1, f2, f3, f4, f5⟩ := hf it (by simp)
    have hl := rv.length
    exact wpAny_pyNext_enum_end (I.ok.hd hc) he hit p.isList (by simp; omega) fun h1 eb => ⟨rfl, I.turned (t' := s.toks) (fun b o hb q => eb b o hb q) f0 f1 f3 f4 f5⟩
  self := fun _ _ _ _ _ st h => by
    obtain ⟨⟨old, he⟩, _⟩ := st
    exact wpAny_pyIter_enum he h
mutual
inductive DV (K : PySem.W.Frag) (H : Hp) : V → PyData → Prop
  | non : DV K H .non .none
  | bl (b : Bool) : DV K H (.bl b) (.bool b)
  | int (i : Int) : DV K H (.int i) (.int i)
  | str (x : Str) : DV K H (.str x) (.str x)
  | tup {a : Addr} {xs : List V} {ds : List PyData} : SqT K H a xs → DVs K H xs ds → DV K H (.ref a) (.tuple ds)
  | lst {a : Addr} {xs : List V} {ds : List PyData} : SqL K H a xs → DVs K H xs ds → DV K H (.ref a) (.list ds)
inductive DVs (K : PySem.W.Frag) (H : Hp) : List V → List PyData → Prop
  | nil : DVs K H [] []
  | cons {v : V} {vs : List V} {d : PyData} {ds : List PyData} : DV K H v d → DVs K H vs ds → DVs K H (v :: vs) (d :: ds)
end
section
variable {X : Cx} {pins : List (Addr × Obj)} {σ : St} {H : Hp} {s : Shared}
mutual
theorem DV.reads (I : Inv X pins σ H s) : ∀ {v : V} {d : PyData} {u : Value}, DV X.K H v d → RelV v u → ∃ as, Reads s.heap u d as
  | _, _, _, .non, r => by cases r; exact ⟨_, .none⟩
  | _, _, _, .bl b, r => by cases r; exact ⟨_, .bool b⟩
  | _, _, _, .int i, r => by obtain ⟨t, rfl⟩ := r; exact ⟨_, .int i t⟩
  | _, _, _, .str x, r => by obtain ⟨t, rfl⟩ := r; exact ⟨_, .str x t⟩
  | _, _, _, .tup h hs, r => by
    cases r
    obtain ⟨its, rv, ⟨o, e, c, n, d⟩, _⟩ := I.tuple h
    obtain ⟨as, q⟩ := DVs.reads I hs rv
    exact ⟨_, .tuple e c d (by simpa using q)⟩
  | _, _, _, .lst h hs, r => by
    cases r
    obtain ⟨its, rv, ⟨o, n, e, c, _, d⟩, _⟩ := I.list h
    obtain ⟨as, q⟩ := DVs.reads I hs rv
    exact ⟨_, .list e c d (by simpa using q)⟩
theorem DVs.reads (I : Inv X pins σ H s) : ∀ {vs : List V} {ds : List PyData} {us : List Value}, DVs X.K H vs ds → Vals vs us → ∃ as, ReadsAll s.heap us ds as
  | _, _, _, .nil, r => by cases r; exact ⟨_, .nil⟩
  | _, _, _, .cons h hs, r => by
    cases r with
    | cons r1 r2 =>
      obtain ⟨as, q⟩ := DV.reads I h r1
      obtain ⟨bs, q2⟩ := DVs.reads I hs r2
      exact ⟨_, .cons q q2⟩
end
end
noncomputable def rEqD (K : PySem.W.Frag) (neg : Bool) : R2 := fun x y H Q => ∃ dx dy, DV K H x dx ∧ DV K H y dy ∧ dx.canLay0 = true ∧ dy.canLay0 = true ∧ dx.depth ≤ 64 ∧ Q (.bl (if neg then !PyData.eqv dx dy else PyData.eqv dx dy)) H
section
variable {X : Cx}
theorem op_eqD (hu : X.A.units + 64 < cLine) : OpR X (compareOp .Eq) (rEqD X.K false) := by
  intro pins s σ H x y v u Q I rx ry h
  obtain ⟨dx, dy, h1, h2, l1, l2, hd, q⟩ := h
  obtain ⟨as, r1⟩ := h1.reads I rx
  obtain ⟨bs, r2⟩ := h2.reads I ry
  exact PySem.SeqAt.compareEq_reads r1 r2 l1 l2 (by omega) ⟨.bl _, H, I, rfl, q⟩
theorem op_neD (hu : X.A.units + 64 < cLine) : OpR X (compareOp .NotEq) (rEqD X.K true) := by
  intro pins s σ H x y v u Q I rx ry h
  obtain ⟨dx, dy, h1, h2, l1, l2, hd, q⟩ := h
  obtain ⟨as, r1⟩ := h1.reads I rx
  obtain ⟨bs, r2⟩ := h2.reads I ry
  exact PySem.SeqAt.compareNe_reads r1 r2 l1 l2 (by omega) ⟨.bl _, H, I, rfl, q⟩
theorem op_fdivL : OpR X (binaryOp .FloorDiv) (rI (fun _ j => 0 < j ∧ j.natAbs.log2 < 9000) fun i j => .int (i / j)) := opI fun i j _ _ _ _ _ hc q => by
  have h1 : (0 : Int) < j := hc.1
  exact floordiv_int (by omega) (by rw [Int.fdiv_eq_ediv_of_nonneg i (by omega)]; exact q) (.inl (PyProof.noPylong_of_log2 hc.2))
end
end L2
namespace L2
open PySem PySem.Spec PyProof.Rows
noncomputable def clOf (env : Env) : List (Str × NameKind) → List (Str × Addr) → List (Str × Addr)
  | [], acc => acc
  | (n, k) :: r, acc => if (k == NameKind.free) = true then (match env.cells.lookup n with | some c => clOf env r ((n, c) :: acc) | none => clOf env r acc) else clOf env r acc
theorem forIn_clOf {env : Env} {f : Str × NameKind → List (Str × Addr) → Sem (ForInStep (List (Str × Addr)))}
    (h1 : ∀ n k acc, (k == NameKind.free) = false → f (n, k) acc = pure (.yield acc)) (h2 : ∀ n c acc, env.cells.lookup n = some c → f (n, .free) acc = pure (.yield ((n, c) :: acc))) :
    ∀ (names : List (Str × NameKind)) (acc : List (Str × Addr)), (∀ y ∈ names, y.2 = .free → ∃ c, env.cells.lookup y.1 = some c) → forIn names acc f = pure (clOf env names acc)
  | [], acc, _ => rfl
  | (n, k) :: r, acc, h => by
    have hr : ∀ y ∈ r, y.2 = .free → ∃ c, env.cells.lookup y.1 = some c := fun y hy => h y (List.mem_cons_of_mem _ hy)
    rw [List.forIn_cons]
    cases hk : (k == NameKind.free) with
    | false =>
      rw [h1 n k acc hk, pure_bind]
      show forIn r acc f = _
      rw [forIn_clOf h1 h2 r acc hr]
      simp only [clOf, hk, Bool.false_eq_true, if_false]
    | true =>
      have e : k = .free := by simpa using hk
      subst e
      obtain ⟨c, hc⟩ := h _ List.mem_cons_self rfl
      rw [h2 n c acc hc, pure_bind]
      show forIn r ((n, c) :: acc) f = _
      rw [forIn_clOf h1 h2 r _ hr]
      have hc' : env.cells.lookup n = some c := hc
      simp only [clOf, hk, if_true, hc']
theorem closure_of {env : Env} {scope : Scope} (h : ∀ y ∈ scope.names, y.2 = .free → ∃ c, env.cells.lookup y.1 = some c) : closureFor scope env = pure (clOf env scope.names []) := by
  simp only [closureFor]
  rw [forIn_clOf (env := env) (fun n k acc hk => by simp only [hk, Bool.false_eq_true, if_false]) (fun n c acc hc => by simp only [beq_self_eq_true, if_true, cellOf, hc, pure_bind]) scope.names [] h, pure_bind]
theorem clOf_sub {env : Env} : ∀ (names : List (Str × NameKind)) (acc : List (Str × Addr)), (∀ x c, acc.lookup x = some c → env.cells.lookup x = some c) → ∀ x c, (clOf env names acc).lookup x = some c → env.cells.lookup x = some c
  | [], _, h, x, c, e => h x c e
  | (n, k) :: r, acc, h, x, c, e => by
    unfold clOf at e
    split at e
    · split at e
      · rename_i c' hc'
        refine clOf_sub r _ (fun y d q => ?_) x c e
        rw [List.lookup_cons] at q
        split at q
        · rename_i hy
          cases q
          rw [eq_of_beq hy]
          exact hc'
        · exact h y d q
      · exact clOf_sub r acc h x c e
    · exact clOf_sub r acc h x c e
theorem clOf_mono {env : Env} : ∀ (names : List (Str × NameKind)) (acc : List (Str × Addr)) (x : Str), (acc.lookup x).isSome = true → ((clOf env names acc).lookup x).isSome = true
  | [], _, _, h => h
  | (n, k) :: r, acc, x, h => by
    unfold clOf
    split
    · split
      · refine clOf_mono r _ x ?_
        rw [List.lookup_cons]
        split
        · rfl
        · exact h
      · exact clOf_mono r acc x h
    · exact clOf_mono r acc x h
theorem clOf_has {env : Env} : ∀ (names : List (Str × NameKind)) (acc : List (Str × Addr)) (x : Str) (c : Addr), (x, NameKind.free) ∈ names → env.cells.lookup x = some c → ((clOf env names acc).lookup x).isSome = true
  | [], _, _, _, h, _ => by cases h
  | (n, k) :: r, acc, x, c, h, hc => by
    rcases List.mem_cons.mp h with z | h
    · cases z
      simp only [clOf, beq_self_eq_true, if_true, hc]
      exact clOf_mono r _ _ (by simp [List.lookup_cons])
    · unfold clOf
      split
      · split
        · exact clOf_has r _ x c h hc
        · exact clOf_has r acc x c h hc
      · exact clOf_has r acc x c h hc
theorem clOf_get {env : Env} {names : List (Str × NameKind)} {x : Str} {c : Addr} (h : (x, NameKind.free) ∈ names) (hc : env.cells.lookup x = some c) : (clOf env names []).lookup x = some c := by
  have q := clOf_has names [] x c h hc
  cases e : (clOf env names []).lookup x with
  | none => rw [e] at q; cases q
  | some d =>
    have z := clOf_sub names [] (fun y d q => by cases q) x d e
    rw [hc] at z
    exact z.symm
theorem relabel_mem {env : Env} {scope : Scope} {x : Str} {k : NameKind} (h : (relabel scope env).names.lookup x = some k) : ∃ k0, (x, k0) ∈ scope.names ∧ (k = k0 ∨ (k0 = .free ∧ k = .cell)) := by
  obtain ⟨⟨n, k0⟩, hm, e⟩ := List.mem_map.mp (PySem.mem_of_lookup h)
  simp only at e
  split at e
  · rename_i hc
    cases e
    have hk : (k0 == NameKind.free) = true := by
      rw [Bool.and_eq_true, Bool.and_eq_true] at hc
      exact hc.1.1
    exact ⟨k0, hm, .inr ⟨by simpa using hk, rfl⟩⟩
  · cases e
    exact ⟨_, hm, .inl rfl⟩
theorem relabel_free {env : Env} : ∀ {names : List (Str × NameKind)} {x : Str}, names.lookup x = some .free →
    (names.map fun (n, k) => if (k == NameKind.free && env.scope.kind == .function && env.kindOf n == some .cell) then (n, NameKind.cell) else (n, k)).lookup x = some .cell ∨
    (names.map fun (n, k) => if (k == NameKind.free && env.scope.kind == .function && env.kindOf n == some .cell) then (n, NameKind.cell) else (n, k)).lookup x = some .free
  | [], _, h => by cases h
  | (n, k) :: r, x, h => by
    rw [List.lookup_cons] at h
    rw [List.map_cons]
    dsimp only
    by_cases hc : (k == NameKind.free && env.scope.kind == .function && env.kindOf n == some .cell) = true
    · rw [if_pos hc, List.lookup_cons]
      cases hx : x == n with
      | true => exact .inl rfl
      | false => rw [hx] at h; exact relabel_free h
    · rw [if_neg hc, List.lookup_cons]
      cases hx : x == n with
      | true => rw [hx] at h; exact .inr h
      | false => rw [hx] at h; exact relabel_free h
noncomputable def compN (own : List Str) (fv : List (Str × Nat)) : List Str := own ++ fv.map (·.1)
noncomputable def compSt (own : List Str) (fv : List (Str × Nat)) (σ : St) : St := own.map (fun _ => none) ++ fv.map fun p => (σ[p.2]?).join
noncomputable def FvOk (X : Cx) (scope : Scope) : List (Str × Nat) → Prop
  | [] => True
  | p :: r => (X.N[p.2]? = some p.1 ∧ scope.names.lookup p.1 = some .free ∧ (X.env.scope.names.lookup p.1 = some .cell ∨ X.env.scope.names.lookup p.1 = some .free)) ∧ FvOk X scope r
theorem FvOk.mem {X : Cx} {scope : Scope} : ∀ {fv : List (Str × Nat)}, FvOk X scope fv → ∀ p ∈ fv, X.N[p.2]? = some p.1 ∧ scope.names.lookup p.1 = some .free ∧ (X.env.scope.names.lookup p.1 = some .cell ∨ X.env.scope.names.lookup p.1 = some .free)
  | [], _, p, hp => by cases hp
  | q :: r, h, p, hp => by
    rcases List.mem_cons.mp hp with z | hp
    · rw [z]; exact h.1
    · exact h.2.mem p hp
noncomputable def cxComp (X : Cx) (s : Shared) (H : Hp) (scope : Scope) (C : Addr) (N : List Str) (fp : List Addr) : Cx :=
  { X with N := N, s₀ := s, H₀ := H, env := compEnvC scope (clOf X.env scope.names []) C X.env, outer := X.stack, stack := X.stack, ex := fp, fn := fun x => ((clOf X.env scope.names []).lookup x).isNone, pn := [], xe := fun _ _ => False }
section
variable {X : Cx} {pins : List (Addr × Obj)} {σ : St} {H : Hp} {s : Shared}
theorem ok_comp {scope : Scope} {C : Addr} {N : List Str} {fp : List Addr} (I : Inv X pins σ H s) (hkind : scope.kind = .function) (hcell : ∀ y ∈ scope.names, y.2 ≠ .cell)
    (hfr : ∀ y ∈ scope.names, y.2 = .free → ∃ c, X.env.cells.lookup y.1 = some c) (hC : s.heap.objs.size ≤ C) (hf : ∀ b ∈ fp, FpOk X pins H b) (hfl : ∀ b ∈ fp, b < s.heap.objs.size) : (cxComp X s H scope C N fp).Ok where
  mod := I.ok.mod
  kind := hkind
  glob := I.ok.glob
  blt := I.ok.blt
  above := hC
  inj := fun x y c h1 h2 => I.ok.inj x y c (clOf_sub _ _ (fun _ _ q => by cases q) x c h1) (clOf_sub _ _ (fun _ _ q => by cases q) y c h2)
  has := fun x hx => by
    have hx' : ∃ k, (relabel scope X.env).names.lookup x = some k ∧ (k = .cell ∨ k = .free) := by
      rcases hx with z | z
      · exact ⟨_, z, .inl rfl⟩
      · exact ⟨_, z, .inr rfl⟩
    obtain ⟨k, hk, hk2⟩ := hx'
    obtain ⟨k0, hm, hk0⟩ := relabel_mem hk
    have e : k0 = .free := by
      rcases hk0 with z | ⟨z, _⟩
      · subst z
        rcases hk2 with z | z
        · exact absurd z (hcell _ hm)
        · exact z
      · exact z
    subst e
    obtain ⟨c, hc⟩ := hfr _ hm rfl
    exact ⟨c, clOf_get hm hc⟩
  cab := fun x c h1 h2 => by
    have h1' : ((clOf X.env scope.names []).lookup x).isNone = true := h1
    have h2' : (clOf X.env scope.names []).lookup x = some c := h2
    rw [h2'] at h1'
    cases h1'
  hd := I.ok.hd
  frames := I.ok.frames
  stk := .inl rfl
  exf := fun b hb => ⟨Nat.ne_of_lt (Nat.lt_of_lt_of_le (hfl b hb) hC), fun x c e => (hf b hb).2.2.2.2.1 x c (clOf_sub _ _ (fun _ _ q => by cases q) x c e)⟩
  bs := I.bs
  bsz := Nat.le_trans I.ok.bsz I.sz
  noex := fun b o e hb => by
    rcases (hf b hb).2.2.2.1 with z | z
    · exact I.ok.noex b o e z
    · exact absurd (Nat.lt_of_lt_of_le (Heap.lt_size e) (Nat.le_trans I.ok.bsz z)) (Nat.lt_irrefl _)
  exfs := fun b hb hs => by
    rcases List.mem_cons.mp (I.stkSub b hs) with z | z
    · exact (hf b hb).2.1 z
    · exact (hf b hb).2.2.1 z
  funs := I.stack
  frf := I.stkFree
theorem inv_comp {scope : Scope} {C D : Addr} {own : List Str} {fv : List (Str × Nat)} {fp : List Addr} {h1 : Heap} {t1 : Nat} {m : Str → Option Value} (I : Inv X pins σ H s) (hkind : scope.kind = .function) (hcell : ∀ y ∈ scope.names, y.2 ≠ .cell)
    (hfr : ∀ y ∈ scope.names, y.2 = .free → ∃ c, X.env.cells.lookup y.1 = some c) (hfv : FvOk X scope fv) (hD : s.heap.objs.size ≤ D) (hCD : C ≠ D) (hC : s.heap.objs.size ≤ C) (hf : ∀ b ∈ fp, FpOk X pins H b) (hfl : ∀ b ∈ fp, b < s.heap.objs.size)
    (hns : h1.Ns C m) (hk : ∀ b o, s.heap.get? b = some o → h1.get? b = some o) (hd : ∃ n, h1.get? D = some { cls := .type "list", data := .seq #[] n }) :
    Inv (cxComp X s H scope C (compN own fv) fp) [] (compSt own fv σ) (upd H D (.lst [])) { s with heap := h1, toks := t1 } := by
  have hn : H D = none := I.hok.fresh hD
  obtain ⟨n, hd⟩ := hd
  have hcl : ∀ x c, (clOf X.env scope.names []).lookup x = some c → X.env.cells.lookup x = some c := fun x c e => clOf_sub _ _ (fun _ _ q => by cases q) x c e
  have hcs : ∀ x c, X.env.cells.lookup x = some c → c < s.heap.objs.size := fun x c e => by
    obtain ⟨v, o, z, _⟩ := I.cell x c e
    exact Heap.lt_size z
  refine ⟨ok_comp I hkind hcell hfr hC hf hfl, rfl, I.bare, Un.laid hk hD hn, ⟨m, hns, fun i x v e1 e2 e3 => ?_⟩, fun x c e => ?_, ?_, fun x c e => ?_, fun p hp => absurd (show p ∈ ([] : List (Addr × Obj)) from hp) (by simp), ?_, ?_⟩
  · -- a name from around
    have e1' : (own ++ fv.map (·.1))[i]? = some x := e1
    have e2' : (own.map (fun _ => (none : Option V)) ++ fv.map fun p => (σ[p.2]?).join)[i]? = some (some v) := e2
    have hi : own.length ≤ i := by
      by_cases hi : i < own.length
      · rw [List.getElem?_append_left (by simpa using hi), List.getElem?_map] at e2'
        cases q : own[i]? with
        | none => rw [q] at e2'; cases e2'
        | some _ => rw [q] at e2'; cases e2'
      · omega
    rw [List.getElem?_append_right hi, List.getElem?_map] at e1'
    rw [List.getElem?_append_right (by simpa using hi), List.getElem?_map, List.length_map] at e2'
    cases q : fv[i - own.length]? with
    | none => rw [q] at e1'; cases e1'
    | some p =>
      rw [q] at e1' e2'
      have ex : p.1 = x := Option.some.inj e1'
      subst ex
      have ev : (σ[p.2]?).join = some v := Option.some.inj e2'
      obtain ⟨g1, g2, g3⟩ := hfv.mem p (List.mem_of_getElem? q)
      have ev2 : σ[p.2]? = some (some v) := by
        cases z : σ[p.2]? with
        | none => rw [z] at ev; cases ev
        | some y => rw [z] at ev; exact congrArg some ev
      obtain ⟨m0, _, hl⟩ := I.loc
      obtain ⟨u, r, l⟩ := hl p.2 p.1 v g1 ev2 (.inr g3)
      refine ⟨u, r, ?_⟩
      have l2 : ∃ c, X.env.cells.lookup p.1 = some c ∧ s.heap.IsCell c (some u) := by
        rcases l with ⟨k, _⟩ | ⟨_, c, e, z⟩
        · have k' : X.env.scope.names.lookup p.1 = some .local := k
          rcases g3 with z | z
          · rw [z] at k'; cases k'
          · rw [z] at k'; cases k'
        · exact ⟨c, e, z⟩
      obtain ⟨c, e, o, ho, hdc⟩ := l2
      refine .inr ⟨?_, c, clOf_get (PySem.mem_of_lookup g2) e, o, hk c o ho, hdc⟩
      exact relabel_free g2
  · obtain ⟨v, o, ho, hdc⟩ := I.cell x c (hcl x c e)
    exact ⟨v, o, hk c o ho, hdc⟩
  · show upd H D (.lst []) C = none
    rw [upd_ne hCD]
    exact I.hok.fresh hC
  · show upd H D (.lst []) c = none
    have z := hcs x c (hcl x c e)
    rw [upd_ne (Nat.ne_of_lt (Nat.lt_of_lt_of_le z hD))]
    exact I.freeC x c (hcl x c e)
  · exact I.hok.laid hk hD ⟨by show 0 ≤ sizeLine; exact Nat.zero_le _, [], n, .nil, hd⟩
  · show (own.map (fun _ => (none : Option V)) ++ fv.map fun p => (σ[p.2]?).join).length = (own ++ fv.map (·.1)).length
    simp
end
noncomputable def PIfs (X : Cx) (ifs : List Expr) (t : TT) : Prop :=
  ∀ (pins : List (Addr × Obj)) (s : Shared) (σ : St) (H : Hp) (Q : Bool → Hp → Prop), Inv X pins σ H s → t σ H Q →
    wpAny (model X.prog X.w) X.A (forIn ifs true fun c r => if r = true then do let ok ← isTrue c X.env (eval c X.env); pure (ForInStep.yield ok) else pure (ForInStep.yield r)) (TP X pins σ Q) X.xe s
noncomputable def tTrue : TT := fun _ H Q => Q true H
theorem pifs_nil {X : Cx} : PIfs X [] tTrue := fun _ _ _ H _ I h => wpAny_tests_nil ⟨H, I, h⟩
noncomputable def CompR (J : It) (D : Addr) (σc : St) (g : TG) (tc : TT) (te : TE) (H1 : Hp) (Fin : Hp → Prop) : Prop :=
  ∃ W : Nat → Nat → St → Hp → Prop, (∃ m, W 0 m σc (upd H1 D (.lst []))) ∧ ∀ i m σ H, W i m σ H →
    (J.stop i H ∧ Fin H) ∨ (J.go i H ∧ ∃ N : St → Hp → Prop, (∀ σ' H', N σ' H' → ∃ m', m' < m ∧ W (i + 1) m' σ' H') ∧
      ∀ x H', J.yld i H x H' → g x σ H' fun σ2 H2 => tc σ2 H2 fun b H3 => if b = true then te σ2 H3 fun y H4 => ∃ ys, H4 D = some (.lst ys) ∧ ys.length < sizeLine ∧ N σ2 (upd H4 D (.lst (ys ++ [y]))) else N σ2 H3)
section
variable {prog : Program} {w : World} {A : Around} {s : Shared}
theorem comp_loop {elt tg iter : Expr} {ifs : List Expr} {scope : Scope} {pos : Pos} {it acc : Value} {env : Env} {R : Result → Shared → Prop} (I : Nat → Shared → Prop)
    (turn : ∀ n s, I n s → wpAny (model prog w) A (pyNext it) (fun r s1 => match r with
      | none => R (.ok .next) s1
      | some v => wpAny (model prog w) A (letOwnedTupleGo tg it v) (fun _ s2 => wpAny (model prog w) A (assign tg env v) (fun _ s3 =>
          wpAny (model prog w) A (forIn ifs true fun c r => if r = true then do let ok ← isTrue c env (eval c env); pure (ForInStep.yield ok) else pure (ForInStep.yield r)) (fun ok s4 =>
            if ok = true then wpAny (model prog w) A (eval elt env) (fun x s5 =>
              wpAny (model prog w) A (call (.builtin "list.append") [acc, x]) (fun _ s6 => ∃ m, m < n ∧ I m s6) (fun _ _ => False) s5) (fun _ _ => False) s4
            else ∃ m, m < n ∧ I m s4) (fun _ _ => False) s3) (fun _ _ => False) s2) (fun _ _ => False) s1) (fun _ _ => False) s)
    (n : Nat) (h : I n s) : codeAny (model prog w) A (.compLoop (.ListComp elt [⟨tg, iter, ifs, 0⟩] scope pos) 0 it acc env) R s := by
  refine codeAny_loop rfl I (fun n s hI => ?_) n h
  show wpAny _ A (Sem.onRaise (compTurn (.ListComp elt [⟨tg, iter, ifs, 0⟩] scope pos) 0 it acc env) (fun x => do noteFrame x env; theTreesLotGoes x)) _ _ s
  refine wpAny_noted ?_
  rw [compTurn_list]
  have no : ∀ {α : Type} {t : Sem α} {Q Q' : α → Shared → Prop} {E : Value → Shared → Prop} {s : Shared}, wpAny (model prog w) A t Q (fun _ _ => False) s → (∀ a s', Q a s' → Q' a s') → wpAny (model prog w) A t Q' E s :=
    fun h1 h2 => wpAny_mono h1 h2 fun _ _ z => False.elim z
  refine wpAny_bind (wpAny_standAt (wpAny_bind (no (turn n s hI) fun r s1 h1 => ?_)))
  cases r with
  | none => exact wpAny_pure h1
  | some v =>
    refine wpAny_bind (no h1 fun _ s2 h2 => wpAny_bind (no h2 fun _ s3 h3 => wpAny_bind (no h3 fun ok s4 h4 => ?_)))
    cases ok with
    | false => exact wpAny_pure ⟨rfl, h4⟩
    | true => exact wpAny_bind (wpAny_bind (no h4 fun x s5 h5 => wpAny_bind (no h5 fun _ s6 h6 => wpAny_pure (wpAny_pure ⟨rfl, h6⟩))))
end
section
variable {X : Cx} {pins : List (Addr × Obj)} {σ : St} {H : Hp} {s : Shared}
theorem comp_block {elt tg iter : Expr} {ifs : List Expr} {scope : Scope} {pos : Pos} {own : List Str} {fv : List (Str × Nat)} {g : TG} {tc : TT} {te : TE} {E : Value → Shared → Prop} {it : Addr} {fp : List Addr} {tn : Nat → Heap → Prop} {J : It} {Fin : Addr → Hp → Prop}
    {RR : Value → Addr → Result → Shared → Prop} (I : Inv X pins σ H s) (hc : X.calm = true) (hkind : scope.kind = .function) (hcell : ∀ y ∈ scope.names, y.2 ≠ .cell) (hfr : ∀ y ∈ scope.names, y.2 = .free → ∃ c, X.env.cells.lookup y.1 = some c) (hfv : FvOk X scope fv)
    (T : Turn X.prog X.w X.K tg J fp it tn) (st : tn 0 s.heap) (hf : ∀ b ∈ fp, FpOk X pins H b)
    (hg : ∀ C, PG (cxComp X s H scope C (compN own fv) fp) tg g) (ht : ∀ C, PIfs (cxComp X s H scope C (compN own fv) fp) ifs tc) (he : ∀ C, PE (cxComp X s H scope C (compN own fv) fp) elt te)
    (hR : ∀ D, H D = none → CompR J D (compSt own fv σ) g tc te H (Fin D))
    (hRR : ∀ D C H' s', Inv X pins σ H' s' → Fin D H' → (∃ m, s'.heap.Ns C m) → s.heap.objs.size ≤ C → H' C = none → RR (.ref D) C (.ok .next) s') :
    wpAny (model X.prog X.w) X.A (newList []) (fun acc s3 => wpAny (model X.prog X.w) X.A (newFunctionEnv scope X.env.globals (clOf X.env scope.names []) [] X.env.qual none .none (some X.env)) (fun cenv s4 =>
      codeAny (model X.prog X.w) X.A (.compStart (.ListComp elt [⟨tg, iter, ifs, 0⟩] scope pos) 0 (.ref it) acc { cenv with scope := relabel scope X.env }) (RR acc cenv.locals) s4) E s3) E s := by
  refine wpAny_newObj_type (wpAny_newFunctionEnv hcell (by intro y hy; simp at hy) (fun h1 hns hsb => ?_) hkind)
  dsimp only at hns hsb ⊢
  generalize hH2 : s.heap.push { cls := .type "list", dict := none, data := .seq ([] : List Value).toArray } = h2 at hns hsb ⊢
  have hz : h2.objs.size = s.heap.objs.size + 1 := by rw [← hH2, Heap.size_push]
  have hDC : s.heap.objs.size ≠ h2.objs.size := by rw [hz]; exact Nat.ne_of_lt (Nat.lt_succ_self _)
  have hC : s.heap.objs.size ≤ h2.objs.size := by rw [hz]; exact Nat.le_succ _
  have kp : ∀ b o, s.heap.get? b = some o → h1.get? b = some o := fun b o e => by
    have hb : b ≠ h2.objs.size := Nat.ne_of_lt (Nat.lt_of_lt_of_le (Heap.lt_size e) hC)
    exact (hsb.2 b hb).trans (Heap.get?_push_of_some _ (hH2 ▸ Heap.get?_push_of_some _ e))
  have hd : ∃ n, h1.get? s.heap.objs.size = some { cls := .type "list", data := .seq #[] n } := ⟨0, (hsb.2 _ hDC).trans (Heap.get?_push_of_some _ (hH2 ▸ Heap.get?_push_size _ rfl))⟩
  have hfl : ∀ b ∈ fp, b < s.heap.objs.size := fun b hb => by
    obtain ⟨o, e, _⟩ := T.obj 0 _ st b hb
    exact Heap.lt_size e
  have hn : H s.heap.objs.size = none := I.hok.fresh (Nat.le_refl _)
  obtain ⟨W, ⟨m0, w0⟩, turn⟩ := hR s.heap.objs.size hn
  have fpX : ∀ {pl : List (Addr × Obj)} {H' : Hp}, (∀ b ∈ fp, H' b = none) → (∀ p ∈ pl, p.1 ∉ fp) → ∀ b ∈ fp, FpOk (cxComp X s H scope h2.objs.size (compN own fv) fp) pl H' b := fun {pl H'} hn' hpl b hb => by
    have ok := ok_comp (N := compN own fv) I hkind hcell hfr hC hf hfl
    exact ⟨hn' b hb, (ok.exf b hb).1, ok.exfs b hb, .inl hb, (ok.exf b hb).2, fun p hp => by
      have hp' : p ∈ ([] : List (Addr × Obj)) ++ pl := hp
      intro z
      exact hpl p (by simpa using hp') (by rw [z]; exact hb)⟩
  have loop : ∀ s4 : Shared, s4 = { s with heap := h1, toks := s.toks + ([] : List (Str × Value)).length } →
      codeAny (model X.prog X.w) X.A (.compLoop (.ListComp elt [⟨tg, iter, ifs, 0⟩] scope pos) 0 (.ref it) (.ref s.heap.objs.size) (compEnvC scope (clOf X.env scope.names []) h2.objs.size X.env)) (RR (.ref s.heap.objs.size) h2.objs.size) s4 := by
    rintro s4 rfl
    have I0 : Inv (cxComp X s H scope h2.objs.size (compN own fv) fp) [] (compSt own fv σ) (upd H s.heap.objs.size (.lst [])) { s with heap := h1, toks := s.toks + ([] : List (Str × Value)).length } :=
      inv_comp I hkind hcell hfr hfv (Nat.le_refl _) hDC.symm hC hf hfl hns kp hd
    have st0 : tn 0 h1 := T.keep 0 _ _ st fun b _ o e => kp b o e
    have fr0 : ∀ b ∈ fp, (upd H s.heap.objs.size (.lst [])) b = none := fun b hb => by
      rw [upd_ne (Nat.ne_of_lt (hfl b hb))]
      exact (hf b hb).1
    refine comp_loop (fun n s' => ∃ i σ' H', Inv (cxComp X s H scope h2.objs.size (compN own fv) fp) [] σ' H' s' ∧ tn i s'.heap ∧ (∀ b ∈ fp, H' b = none) ∧ W i n σ' H') ?_ m0 ⟨0, _, _, I0, st0, fr0, w0⟩
    rintro n s5 ⟨i, σ5, H5, I5, st5, fr5, w5⟩
    rcases turn i n σ5 H5 w5 with ⟨stop, fin⟩ | ⟨go, N, hN, step⟩
    · refine thn (T.done (cxComp X s H scope h2.objs.size (compN own fv) fp) rfl rfl rfl hc i [] s5 σ5 H5 (fun _ _ => False) I5 (fpX fr5 (by simp)) st5 stop) fun r s6 ⟨hr, I6⟩ => ?_
      subst hr
      obtain ⟨mm, hm, _⟩ := I6.loc
      refine hRR _ _ H5 s6 ?_ fin ⟨mm, hm⟩ hC I6.free
      exact I.call' (ch := fp) I6.os I6.base I6.hok I6.bare fun b hb => ⟨(hf b hb).2.2.2.1, (hf b hb).2.1, (hf b hb).2.2.2.2.1, (hf b hb).2.2.2.2.2⟩
    · refine thn (T.item (cxComp X s H scope h2.objs.size (compN own fv) fp) rfl rfl rfl hc i [] s5 σ5 H5 (fun _ _ => False) I5 (fpX fr5 (by simp)) st5 go) fun r s6 ⟨u, hr, h6⟩ => ?_
      subst hr
      refine thn h6 fun _ s7 ⟨x, H7, I7, r7, y7, st7, fr7⟩ => ?_
      have I7' := I7.pinned (fp := fp) (fpX fr7 (by simp)) (T.obj _ _ st7)
      have back : ∀ {σ8 : St} {H8 : Hp} {s8 : Shared}, Inv (cxComp X s H scope h2.objs.size (compN own fv) fp) ([] ++ pinsAt fp s7.heap) σ8 H8 s8 → N σ8 H8 → ∃ m, m < n ∧ ∃ i σ' H', Inv (cxComp X s H scope h2.objs.size (compN own fv) fp) [] σ' H' s8 ∧ tn i s8.heap ∧ (∀ b ∈ fp, H' b = none) ∧ W i m σ' H' := fun {σ8 H8 s8} I8 n8 => by
        obtain ⟨m', hm, w8⟩ := hN σ8 H8 n8
        refine ⟨m', hm, i + 1, σ8, H8, I8.unpinned, T.keep _ _ _ st7 fun b hb o e => (I8.pin (b, o) (List.mem_append_right _ (List.mem_append_right _ (mem_pinsAt hb e)))).1, fun b hb => ?_, w8⟩
        obtain ⟨o, e, d⟩ := T.obj _ _ st7 b hb
        exact (I8.pin (b, o) (List.mem_append_right _ (List.mem_append_right _ (mem_pinsAt hb e)))).2.1
      refine thn (hg _ _ s7 σ5 H7 x u _ I7' r7 (step x H7 y7)) fun _ s8 ⟨σ8, H8, I8, q8⟩ => ?_
      refine thn (ht _ _ s8 σ8 H8 _ I8 q8) fun ok s9 ⟨H9, I9, q9⟩ => ?_
      cases ok with
      | false =>
        rw [if_neg Bool.false_ne_true] at q9 ⊢
        exact back I9 q9
      | true =>
        rw [if_pos rfl] at q9 ⊢
        refine thn (he _ _ s9 σ8 H9 _ I9 q9) fun y s10 ⟨v10, H10, I10, r10, ys, hy, hl, q10⟩ => ?_
        refine thn (mt_append _ s10 σ8 H10 (.ref s.heap.objs.size) [v10] (.ref s.heap.objs.size) [y] (fun _ H11 => N σ8 H11) I10 rfl (.cons r10 .nil) ⟨_, ys, v10, rfl, rfl, hy, hl, q10⟩) fun _ s11 ⟨v11, H11, I11, _, q11⟩ => ?_
        exact back I11 q11
  exact codeAny_compStart_list (loop _ rfl) (T.self _ 0 _ _ _ (T.keep 0 _ _ st fun b _ o e => kp b o e) (loop _ rfl))
noncomputable def tComp (own : List Str) (fv : List (Str × Nat)) (wi : TI) (g : TG) (tc : TT) (te : TE) : TE := fun σ H Q => wi σ H fun J H1 => ∀ D, H1 D = none → CompR J D (compSt own fv σ) g tc te H1 fun H' => Q (.ref D) H'
theorem free_of {scope : Scope} (ok : X.Ok) (h : ∀ y ∈ scope.names, y.2 = .free → (X.env.scope.names.lookup y.1 = some .cell ∨ X.env.scope.names.lookup y.1 = some .free)) : ∀ y ∈ scope.names, y.2 = .free → ∃ c, X.env.cells.lookup y.1 = some c :=
  fun y hy e => ok.has y.1 (h y hy e)
theorem fr_of {scope sc : Scope} (h : (scope.names.all fun y => !(y.2 == NameKind.free) || (sc.names.lookup y.1 == some NameKind.cell) || (sc.names.lookup y.1 == some NameKind.free)) = true) :
    ∀ y ∈ scope.names, y.2 = .free → (sc.names.lookup y.1 = some .cell ∨ sc.names.lookup y.1 = some .free) := fun y hy e => by
  have q := List.all_eq_true.mp h y hy
  rw [e] at q
  simpa using q
theorem pe_comp {elt tg iter : Expr} {ifs : List Expr} {scope : Scope} {pos : Pos} (own : List Str) (fv : List (Str × Nat)) {wi : TI} {g : TG} {tc : TT} {te : TE} (hc : X.calm = true) (hi : PI X tg iter wi)
    (hg : ∀ s H C fp, PG (cxComp X s H scope C (compN own fv) fp) tg g) (ht : ∀ s H C fp, PIfs (cxComp X s H scope C (compN own fv) fp) ifs tc) (he : ∀ s H C fp, PE (cxComp X s H scope C (compN own fv) fp) elt te) (hfv : FvOk X scope fv)
    (hfr0 : (scope.names.all fun y => !(y.2 == NameKind.free) || (X.env.scope.names.lookup y.1 == some NameKind.cell) || (X.env.scope.names.lookup y.1 == some NameKind.free)) = true)
    (hkind : scope.kind = .function := by rfl) (hcell : ∀ y ∈ scope.names, y.2 ≠ .cell := by decide +kernel)
    (hnames : ∀ y ∈ scope.names, y.2 = .local → scope.names.lookup y.1 = some .local := by decide +kernel) (hs : ∀ x, foldedSetIterable iter X.env x = pure x := by intro _; rfl) :
    PE X (.ListComp elt [⟨tg, iter, ifs, 0⟩] scope pos) (tComp own fv wi g tc te) := by
  intro pins s σ H Q I h
  have hfr := fr_of hfr0
  rw [eval_ListComp]
  refine wpAny_comprehension_free (use := none) rfl hs (closure_of (free_of I.ok hfr)) hkind hnames (thn (hi pins s σ H _ I h) fun xv s1 h1 => thn h1 fun itv s2 h2 => ?_)
  obtain ⟨it, fp, tn, J, H2, e, I2, T, st2, f2, R⟩ := h2
  subst e
  refine comp_block I2 hc hkind hcell (free_of I.ok hfr) hfv T st2 f2 (fun C => hg _ _ C _) (fun C => ht _ _ C _) (fun C => he _ _ C _) (Fin := fun D H' => Q (.ref D) H') R ?_
  intro D C H' s' I' fin hm hC hn
  obtain ⟨m, hm⟩ := hm
  refine ⟨m, hm, fun h' hs' => ⟨.ref D, H', ?_, rfl, fin⟩⟩
  obtain ⟨f0, f1, _, f3, f4, f5⟩ := I2.fpOk hC hn
  exact I'.turned (t' := s'.toks) (fun b o hb q => (hs'.2 b hb).trans q) f0 f1 f3 f4 f5
end
end L2
namespace L2
open PySem PySem.Spec PyProof.Rows
noncomputable def CalOk (P : Program) (w : World) (K : PySem.W.Frag) (mg : Str → Option Value) (base : Heap) (k : Nat) (x : Str) (ps : List Str) (sp : Sp) : Prop :=
  ∃ (f : Addr) (fd : FuncData), FnOk P w K mg base CX0 k f fd ps sp ∧ Binds K fd ps [] ∧ PySem.W.keepIn K (.ref f) = true ∧ mg x = some (.ref f)
theorem pe_cal {X : Cx} {k j : Nat} {x : Str} {ps : List Str} {sp : Sp} {e : Expr} {es : List Expr} {t : TA} {p pos : Pos} (C : CalOk X.prog X.w X.K X.mg X.base k x ps sp) (hr : Room j X.A) (ha : PA X (e :: es) t) (hjk : k ≤ j := by decide) (hg : Gl X x := by rfl)
    (hdb : (x == ("__debug__" : Str)) = false := by decide) (he : starEach (e :: es) X.env = (false, eval e X.env) :: starEach es X.env := by rfl) (hpl : (backTo pos (starEach es X.env)).any (·.1) = false := by rfl) :
    PE X (.Call (.Name x p) (e :: es) [] pos) (tCall sp [] E0 t) := by
  obtain ⟨f, fd, F, b, kp, m⟩ := C
  exact pe_call F (hr.mono hjk) hg m kp b .nil pass0 ha hdb he hpl
section
variable {σ : St} {H : Hp} {Q : VK} {D : Ends}
theorem rd_seq {t u : TS} (h : t { D with nx := u D } σ H) : tSeq t u D σ H := h
theorem rd_asg {te : TE} {g : TG} (h : te σ H fun x H1 => g x σ H1 D.nx) : tAsg te g D σ H := h
theorem rd_name {i : Nat} {v : V} {Q : St → Hp → Prop} (h : Q (σ.set i (some v)) H) : gName i v σ H Q := h
theorem rd_c {v : V} (h : Q v H) : tC v σ H Q := h
theorem rd_op {r : R2} {ta tb : TE} (h : ta σ H fun x H1 => tb σ H1 fun y H2 => r x y H2 Q) : tOp r ta tb σ H Q := h
theorem rd_ne {x y : V} (c : scal x y = true) (h : Q (.bl (!decide (x = y))) H) : rNe x y H Q := ⟨c, h⟩
theorem rd_ret {te : TE} (h : te σ H D.rt) : tRet te D σ H := h
theorem rd_drop {te : TE} (h : te σ H fun _ H1 => D.nx σ H1) : tDrop te D σ H := h
theorem rd_ifs {c : TT} {t u : TS} (h : c σ H fun b H1 => if b = true then t D σ H1 else u D σ H1) : tIfS c t u D σ H := h
theorem rd_next (h : D.nx σ H) : tNext D σ H := h
theorem rd_test {t : TE} {Q : Bool → Hp → Prop} (h : t σ H fun x H' => ∃ k, x = .bl k ∧ Q k H') : tTest t σ H Q := h
theorem rd_b {t : TE} {Q : Bool → Hp → Prop} (h : t σ H fun x H' => ∃ k, x = .bl k ∧ Q k H') : tB t σ H Q := h
theorem rd_bl {b : Bool} {Q : Bool → Prop} (h : Q b) : ∃ k, V.bl b = .bl k ∧ Q k := ⟨b, rfl, h⟩
theorem rd_and {t u : TT} {Q : Bool → Hp → Prop} (h : t σ H fun c H1 => if c = true then u σ H1 Q else Q false H1) : tAnd t u σ H Q := h
theorem rd_or {t u : TT} {Q : Bool → Hp → Prop} (h : t σ H fun c H1 => if c = true then Q true H1 else u σ H1 Q) : tOr t u σ H Q := h
theorem rd_not {t : TT} {Q : Bool → Hp → Prop} (h : t σ H fun c H1 => Q (!c) H1) : tNot t σ H Q := h
theorem rd_nil {Q : List V → Hp → Prop} (h : Q [] H) : tNil σ H Q := h
theorem rd_cons {ta : TE} {tr : TA} {Q : List V → Hp → Prop} (h : ta σ H fun x H1 => tr σ H1 fun xs H2 => Q (x :: xs) H2) : tCons ta tr σ H Q := h
theorem rd_cb {r : List V → Hp → VK → Prop} {t : TA} (h : t σ H fun vs H1 => r vs H1 Q) : tCB r t σ H Q := h
theorem rd_call {sp : Sp} {E : XK} {t : TA} (h : t σ H fun vs H1 => sp (vs ++ []) H1 Q E) : tCall sp [] E t σ H Q := h
theorem rd_tup {t : TA} (h : t σ H fun xs H1 => xs.length ≤ sizeLine ∧ ∀ p, H1 p = none → Q (.ref p) (upd H1 p (.tup xs))) : tTup t σ H Q := h
theorem rd_lst {t : TA} (h : t σ H fun xs H1 => xs.length ≤ sizeLine ∧ ∀ p, H1 p = none → Q (.ref p) (upd H1 p (.lst xs))) : tLst t σ H Q := h
theorem rd_bm {K : PySem.W.Frag} {T : String} {r : V → List V → Hp → VK → Prop} {to : TE} {t : TA} (h : to σ H fun x H1 => tyV K T x H1 ∧ t σ H1 fun xs H2 => r x xs H2 Q) : tBM K T r to t σ H Q := h
end
section
variable {σ : St} {H : Hp} {Q : VK} {D : Ends}
end
theorem atI_nn {α : Type} {xs : List α} {i : Int} {v : α} (h0 : 0 ≤ i) (h : xs[i.toNat]? = some v) : atI xs i = some v := by
  have q := atI_nat h
  rwa [Int.toNat_of_nonneg h0] at q
theorem Same.tup {K : PySem.W.Frag} {H H' : Hp} {a : Addr} {xs : List V} (e : Same H H') (h : SqT K H a xs) : SqT K H' a xs := by
  rcases h with (h | ⟨o, h⟩) | h
  · exact .inl (.inl (e _ _ h))
  · exact .inl (.inr ⟨o, e _ _ h⟩)
  · exact .inr h
theorem same_upd {H : Hp} {p : Addr} (h : H p = none) (o : HO) : Same H (upd H p o) := fun b u q => by rw [upd_ne (ne_of_none q h)]; exact q
end L2
namespace L2
open PySem PySem.Spec PyProof.Rows
theorem b_max : bootBuiltins "max" = some (.builtin "max") := by decide +kernel
theorem b_isinstance : bootBuiltins "isinstance" = some (.builtin "isinstance") := by decide +kernel
theorem b_len : bootBuiltins "len" = some (.builtin "len") := by decide +kernel
theorem b_sorted : bootBuiltins "sorted" = some (.builtin "sorted") := by decide +kernel
theorem b_all : bootBuiltins "all" = some (.builtin "all") := by decide +kernel
theorem b_int : bootBuiltins "int" = some (.type "int") := by decide +kernel
theorem b_bool : bootBuiltins "bool" = some (.type "bool") := by decide +kernel
theorem b_list : bootBuiltins "list" = some (.type "list") := by decide +kernel
theorem b_tuple : bootBuiltins "tuple" = some (.type "tuple") := by decide +kernel
end L2
namespace L2
open PySem PySem.Spec PyProof.Rows
section
variable {X : Cx}
theorem call_sorted : CallR X (.builtin "sorted") (fun xs H Q => ∃ (p : Addr) (ns : List Int), xs = [.ref p] ∧ SqL X.K H p (ns.map V.int) ∧ ns.length < 64 ∧ ∀ (l : Addr) (ms : List Int), H l = none → ms.Perm ns → ms.Pairwise (· ≤ ·) → Q (.ref l) (upd H l (.lst (ms.map V.int)))) := by
  intro pins s σ H xs us Q I r h
  obtain ⟨p, ns, rfl, hq, h64, q⟩ := h
  obtain ⟨u, rfl, ru⟩ := vals1 r
  cases ru
  obtain ⟨its, rv, pl, hz⟩ := I.list hq
  have hl := rv.length
  rw [List.length_map] at hl
  refine sorted_ints pl.isList (intsAre_of rv) (by omega) fun out ms hi hp hs => ?_
  obtain ⟨e, he⟩ := sortedAll_at s.heap its out
  have hlen : ms.length = ns.length := hp.length_eq
  have hout : out.toList.length = ms.length := hi.length
  refine ⟨.ref (s.heap.objs.size + 1), _, I.laid (t' := s.toks) (o := .lst (ms.map V.int)) (fun b ob z => sortedAll_old z) (Nat.le_succ _) ?_, rfl, q _ ms (I.hok.fresh (Nat.le_succ _)) hp hs⟩
  refine ⟨?_, out.toList, e, vals_ints hi, he⟩
  rw [List.length_map, hlen]
  have : (64 : Nat) ≤ sizeLine := by decide
  omega
end
end L2
namespace L3
open PySem L2
noncomputable abbrev D := PyData
inductive PV where
  | fz (d : D)
  | ow (ds : List D)
  | pl (i : Nat)
noncomputable abbrev PEnv := List (Option PV)
structure Xc where
  cls : Str
  fs : List (Str × D)
inductive Res (α : Type) where
  | ok (a : α)
  | er (x : Xc)
  | bad
namespace Res
noncomputable def bind {α β : Type} (r : Res α) (f : α → Res β) : Res β := match r with
  | .ok a => f a
  | .er x => .er x
  | .bad => .bad
noncomputable def ofO {α : Type} : Option α → Res α
  | some a => .ok a
  | none => .bad
theorem bind_ok {α β : Type} (a : α) (f : α → Res β) : (Res.ok a).bind f = f a := rfl
theorem bind_er {α β : Type} (x : Xc) (f : α → Res β) : (Res.er x).bind f = .er x := rfl
end Res
noncomputable abbrev Own := Addr → Prop
noncomputable def addO (O : Own) (p : Addr) : Own := fun b => O b ∨ b = p
noncomputable def subO (O : Own) (p : Addr) : Own := fun b => O b ∧ b ≠ p
noncomputable def noO : Own := fun _ => False
noncomputable def Ev (O : Own) (H : Hp) (O' : Own) (H' : Hp) : Prop := ∀ b o, H b = some o → ¬ O b → H' b = some o ∧ ¬ O' b
theorem Ev.refl {O : Own} {H : Hp} : Ev O H O H := fun _ _ h n => ⟨h, n⟩
theorem Ev.trans {O O1 O2 : Own} {H H1 H2 : Hp} (a : Ev O H O1 H1) (b : Ev O1 H1 O2 H2) : Ev O H O2 H2 := fun p o h n => let ⟨h1, n1⟩ := a p o h n; b p o h1 n1
theorem Ev.grow {O : Own} {H H' : Hp} (s : Same H H') : Ev O H O H' := fun b o h n => ⟨s b o h, n⟩
theorem Ev.add {O : Own} {H H' : Hp} {p : Addr} (s : Same H H') (hp : H p = none) : Ev O H (addO O p) H' := fun b o h n => ⟨s b o h, fun z => z.elim n fun e => by subst e; rw [h] at hp; cases hp⟩
theorem Ev.sub {O O' : Own} {H : Hp} (h : ∀ b, O' b → O b) : Ev O H O' H := fun b o e n => ⟨e, fun z => n (h b z)⟩
theorem Ev.mut {O : Own} {H : Hp} {p : Addr} (hp : O p) (u : HO) : Ev O H O (upd H p u) := fun b o h n => ⟨by rw [upd_ne (fun e => n (by rw [e]; exact hp))]; exact h, n⟩
noncomputable def SqLX (K : PySem.W.Frag) (H : Hp) (a : Addr) (xs : List V) : Prop := Rd H a (.lst xs) ∨ ∃ (its : List Value) (n : Nat), K.lookup a = some { cls := .type "list", data := .seq its.toArray n } ∧ xs.length ≤ sizeLine ∧ Vals xs its
theorem SqLX.sq {K : PySem.W.Frag} {H : Hp} {a : Addr} {xs : List V} (h : SqLX K H a xs) : SqL K H a xs := by
  rcases h with h | ⟨its, n, h1, h2, h3⟩
  · exact .inl h
  · exact .inr ⟨_, its.toArray, n, h1, rfl, rfl, rfl, by rw [List.size_toArray, ← h3.length]; exact h2, by simpa using h3⟩
theorem SqLX.of {K : PySem.W.Frag} {H : Hp} {a : Addr} {xs : List V} (h : H a = some (.lst xs)) : SqLX K H a xs := .inl (.inl h)
theorem SqLX.same {K : PySem.W.Frag} {H H' : Hp} {a : Addr} {xs : List V} (e : Same H H') (h : SqLX K H a xs) : SqLX K H' a xs := by
  rcases h with (h | ⟨o, h⟩) | h
  · exact .inl (.inl (e _ _ h))
  · exact .inl (.inr ⟨o, e _ _ h⟩)
  · exact .inr h
theorem same_none (H : Hp) : Same (fun _ => none) H := fun _ _ h => by cases h
noncomputable def SqLO (O : Own) (K : PySem.W.Frag) (H : Hp) (a : Addr) (xs : List V) : Prop := SqLX K H a xs ∧ (O a → SqLX K (fun _ => none) a xs)
noncomputable def SqTO (O : Own) (K : PySem.W.Frag) (H : Hp) (a : Addr) (xs : List V) : Prop := SqT K H a xs ∧ (O a → SqT K (fun _ => none) a xs)
section
variable {O O' : Own} {K : PySem.W.Frag} {H H' : Hp} {a : Addr} {xs : List V}
theorem SqLO.ev (h : SqLO O K H a xs) (e : Ev O H O' H') : SqLO O' K H' a xs := by
  obtain ⟨h, k⟩ := h
  by_cases z : O a
  · exact ⟨SqLX.same (same_none H') (k z), fun _ => k z⟩
  · rcases h with (h | ⟨o, h⟩) | h
    · obtain ⟨h1, h2⟩ := e a _ h z
      exact ⟨.inl (.inl h1), fun y => absurd y h2⟩
    · obtain ⟨h1, h2⟩ := e a _ h z
      exact ⟨.inl (.inr ⟨o, h1⟩), fun y => absurd y h2⟩
    · exact ⟨.inr h, fun _ => .inr h⟩
theorem SqTO.ev (h : SqTO O K H a xs) (e : Ev O H O' H') : SqTO O' K H' a xs := by
  obtain ⟨h, k⟩ := h
  by_cases z : O a
  · exact ⟨(same_none H').tup (k z), fun _ => k z⟩
  · rcases h with (h | ⟨o, h⟩) | h
    · obtain ⟨h1, h2⟩ := e a _ h z
      exact ⟨.inl (.inl h1), fun y => absurd y h2⟩
    · obtain ⟨h1, h2⟩ := e a _ h z
      exact ⟨.inl (.inr ⟨o, h1⟩), fun y => absurd y h2⟩
    · exact ⟨.inr h, fun _ => .inr h⟩
end
mutual
inductive DV (O : Own) (K : PySem.W.Frag) (H : Hp) : V → D → Prop
  | non : DV O K H .non .none
  | bl (b : Bool) : DV O K H (.bl b) (.bool b)
  | int (i : Int) : DV O K H (.int i) (.int i)
  | str (x : Str) : DV O K H (.str x) (.str x)
  | tup {a : Addr} {xs : List V} {ds : List D} : SqTO O K H a xs → DVs O K H xs ds → DV O K H (.ref a) (.tuple ds)
  | lst {a : Addr} {xs : List V} {ds : List D} : SqLO O K H a xs → DVs O K H xs ds → DV O K H (.ref a) (.list ds)
inductive DVs (O : Own) (K : PySem.W.Frag) (H : Hp) : List V → List D → Prop
  | nil : DVs O K H [] []
  | cons {v : V} {vs : List V} {d : D} {ds : List D} : DV O K H v d → DVs O K H vs ds → DVs O K H (v :: vs) (d :: ds)
end
section
variable {O O' : Own} {K : PySem.W.Frag} {H H' : Hp}
mutual
theorem DV.ev (e : Ev O H O' H') : ∀ {v : V} {d : D}, DV O K H v d → DV O' K H' v d
  | _, _, .non => .non
  | _, _, .bl b => .bl b
  | _, _, .int i => .int i
  | _, _, .str x => .str x
  | _, _, .tup h hs => .tup (h.ev e) (DVs.ev e hs)
  | _, _, .lst h hs => .lst (h.ev e) (DVs.ev e hs)
theorem DVs.ev (e : Ev O H O' H') : ∀ {vs : List V} {ds : List D}, DVs O K H vs ds → DVs O' K H' vs ds
  | _, _, .nil => .nil
  | _, _, .cons h hs => .cons (DV.ev e h) (DVs.ev e hs)
end
theorem DVs.length : ∀ {vs : List V} {ds : List D}, DVs O K H vs ds → vs.length = ds.length
  | _, _, .nil => rfl
  | _, _, .cons _ t => by rw [List.length_cons, List.length_cons, t.length]
theorem DVs.get : ∀ {vs : List V} {ds : List D} {i : Nat} {d : D}, DVs O K H vs ds → ds[i]? = some d → ∃ v, vs[i]? = some v ∧ DV O K H v d
  | _, _, _, _, .nil, e => by simp at e
  | _, _, 0, _, .cons h _, e => by simp at e; subst e; exact ⟨_, rfl, h⟩
  | _, _, i + 1, d, .cons _ t, e => by
    obtain ⟨v, h1, h2⟩ := DVs.get (i := i) (d := d) t (by simpa using e)
    exact ⟨v, by simpa using h1, h2⟩
theorem DVs.getV : ∀ {vs : List V} {ds : List D} {i : Nat} {v : V}, DVs O K H vs ds → vs[i]? = some v → ∃ d, ds[i]? = some d ∧ DV O K H v d
  | _, _, _, _, .nil, e => by simp at e
  | _, _, 0, _, .cons h _, e => by simp at e; subst e; exact ⟨_, rfl, h⟩
  | _, _, i + 1, v, .cons _ t, e => by
    obtain ⟨d, h1, h2⟩ := DVs.getV (i := i) (v := v) t (by simpa using e)
    exact ⟨d, by simpa using h1, h2⟩
theorem DVs.append : ∀ {vs ws : List V} {ds es : List D}, DVs O K H vs ds → DVs O K H ws es → DVs O K H (vs ++ ws) (ds ++ es)
  | _, _, _, _, .nil, h => h
  | _, _, _, _, .cons h t, g => .cons h (DVs.append t g)
theorem DVs.take : ∀ {vs : List V} {ds : List D} (n : Nat), DVs O K H vs ds → DVs O K H (vs.take n) (ds.take n)
  | _, _, 0, _ => .nil
  | _, _, _ + 1, .nil => .nil
  | _, _, n + 1, .cons h t => .cons h (DVs.take n t)
theorem DVs.drop : ∀ {vs : List V} {ds : List D} (n : Nat), DVs O K H vs ds → DVs O K H (vs.drop n) (ds.drop n)
  | _, _, 0, h => h
  | _, _, _ + 1, .nil => .nil
  | _, _, n + 1, .cons _ t => DVs.drop n t
theorem DVs.flat {vs : List V} {ds : List D} (h : DVs O K H vs ds) : ∀ n : Nat, DVs O K H (List.replicate n vs).flatten (List.replicate n ds).flatten
  | 0 => .nil
  | n + 1 => by rw [List.replicate_succ, List.replicate_succ, List.flatten_cons, List.flatten_cons]; exact h.append (DVs.flat h n)
mutual
theorem DV.plain : ∀ {v : V} {d : D}, DV O K H v d → L2.DV K H v d
  | _, _, .non => .non
  | _, _, .bl b => .bl b
  | _, _, .int i => .int i
  | _, _, .str x => .str x
  | _, _, .tup h hs => .tup h.1 (DVs.plain hs)
  | _, _, .lst h hs => .lst h.1.sq (DVs.plain hs)
theorem DVs.plain : ∀ {vs : List V} {ds : List D}, DVs O K H vs ds → L2.DVs K H vs ds
  | _, _, .nil => .nil
  | _, _, .cons h hs => .cons (DV.plain h) (DVs.plain hs)
end
end
noncomputable def DX (O : Own) (K : PySem.W.Frag) (H : Hp) (v : V) : D → Prop
  | .list ds => ∃ a xs, v = .ref a ∧ SqLX K H a xs ∧ DVs O K H xs ds
  | d => DV O K H v d
theorem DV.x {O : Own} {K : PySem.W.Frag} {H : Hp} {v : V} {d : D} (h : DV O K H v d) : DX O K H v d := by
  cases h with
  | lst h hs => exact ⟨_, _, rfl, h.1, hs⟩
  | non => exact .non
  | bl b => exact .bl b
  | int i => exact .int i
  | str x => exact .str x
  | tup h hs => exact .tup h hs
theorem DX.plain {O : Own} {K : PySem.W.Frag} {H : Hp} {v : V} {d : D} (h : DX O K H v d) : L2.DV K H v d := by
  cases d with
  | list ds =>
    obtain ⟨a, xs, rfl, h1, h2⟩ := h
    exact .lst h1.sq h2.plain
  | none => exact DV.plain h
  | bool b => exact DV.plain h
  | int i => exact DV.plain h
  | str x => exact DV.plain h
  | tuple ds => exact DV.plain h
  | dict kvs => exact DV.plain h
noncomputable def SlotOk (K : PySem.W.Frag) (H0 : Hp) (O : Own) (H : Hp) (v : V) : PV → Prop
  | .fz d => DV O K H v d
  | .ow ds => ∃ a vs, v = .ref a ∧ O a ∧ H0 a = none ∧ H a = some (.lst vs) ∧ DVs O K H vs ds
  | .pl _ => False
structure Rl (K : PySem.W.Frag) (B : Own) (H0 : Hp) (O : Own) (σ : St) (H : Hp) (ρ : PEnv) : Prop where
  same : Same H0 H
  bo : ∀ a, B a → O a
  bd : ∀ a, B a → H0 a ≠ none
  od : ∀ a, H a = none → ¬ O a
  len : σ.length = ρ.length
  slot : ∀ (i : Nat) (x : PV), ρ[i]? = some (some x) → ∃ v, σ[i]? = some (some v) ∧ SlotOk K H0 O H v x
  one : ∀ (i j : Nat) (ds es : List D) (v : V), ρ[i]? = some (some (.ow ds)) → ρ[j]? = some (some (.ow es)) → σ[i]? = some (some v) → σ[j]? = some (some v) → i = j
noncomputable def PvOk (K : PySem.W.Frag) (H0 : Hp) (O : Own) (σ : St) (H : Hp) (ρ : PEnv) (v : V) : PV → Prop
  | .fz d => DV O K H v d
  | .ow ds => ∃ a vs, v = .ref a ∧ O a ∧ H0 a = none ∧ H a = some (.lst vs) ∧ DVs O K H vs ds ∧ ∀ (i : Nat) (es : List D), ρ[i]? = some (some (.ow es)) → σ[i]? ≠ some (some (.ref a))
  | .pl i => σ[i]? = some (some v)
noncomputable def Settled : PV → Prop
  | .ow _ => False
  | _ => True
noncomputable def settle : PV → PV
  | .ow ds => .fz (.list ds)
  | p => p
section
variable {K : PySem.W.Frag} {B O O' : Own} {H0 H H' : Hp} {σ : St} {ρ ρ' : PEnv} {v : V}
theorem SlotOk.grow {x : PV} (s : Same H H') (h : SlotOk K H0 O H v x) : SlotOk K H0 O H' v x := by
  cases x with
  | fz d => exact DV.ev (Ev.grow s) h
  | ow ds =>
    obtain ⟨a, vs, e, h1, h2, h3, h4⟩ := h
    exact ⟨a, vs, e, h1, h2, s _ _ h3, h4.ev (Ev.grow s)⟩
  | pl i => exact h
theorem Rl.grow (R : Rl K B H0 O σ H ρ) (s : Same H H') : Rl K B H0 O σ H' ρ :=
  ⟨R.same.trans s, R.bo, R.bd, fun a h => R.od a (s.free h), R.len, fun i x h => let ⟨v, h1, h2⟩ := R.slot i x h; ⟨v, h1, h2.grow s⟩, R.one⟩
theorem Rl.none0 (R : Rl K B H0 O σ H ρ) {p : Addr} (h : H p = none) : H0 p = none := R.same.free h
theorem Rl.add (R : Rl K B H0 O σ H ρ) {p : Addr} (s : Same H H') (hp : H p = none) (hq : H' p ≠ none) : Rl K B H0 (addO O p) σ H' ρ := by
  refine ⟨R.same.trans s, fun a h => .inl (R.bo a h), R.bd, fun a h z => z.elim (R.od a (s.free h)) fun e => hq (by rw [← e]; exact h), R.len, fun i x h => ?_, R.one⟩
  obtain ⟨v, h1, h2⟩ := R.slot i x h
  refine ⟨v, h1, ?_⟩
  cases x with
  | fz d => exact DV.ev (Ev.add s hp) h2
  | ow ds =>
    obtain ⟨a, vs, e, g1, g2, g3, g4⟩ := h2
    exact ⟨a, vs, e, .inl g1, g2, s _ _ g3, g4.ev (Ev.add s hp)⟩
  | pl i => exact h2
theorem Rl.notB (R : Rl K B H0 O σ H ρ) {a : Addr} (h : H0 a = none) : ¬ B a := fun z => R.bd a z h
theorem Rl.sub (R : Rl K B H0 O σ H ρ) {a : Addr} (h0 : H0 a = none) (h : ∀ (i : Nat) (es : List D), ρ[i]? = some (some (.ow es)) → σ[i]? ≠ some (some (.ref a))) : Rl K B H0 (subO O a) σ H ρ := by
  refine ⟨R.same, fun b hb => ⟨R.bo b hb, fun e => R.notB h0 (e ▸ hb)⟩, R.bd, fun b hb z => R.od b hb z.1, R.len, fun i x hx => ?_, R.one⟩
  obtain ⟨v, h1, h2⟩ := R.slot i x hx
  refine ⟨v, h1, ?_⟩
  cases x with
  | fz d => exact DV.ev (Ev.sub fun b z => z.1) h2
  | ow ds =>
    obtain ⟨b, vs, e, g1, g2, g3, g4⟩ := h2
    subst e
    exact ⟨b, vs, rfl, ⟨g1, fun e => h i ds hx (by rw [h1, e])⟩, g2, g3, g4.ev (Ev.sub fun b z => z.1)⟩
  | pl i => exact h2
theorem lst_of {a : Addr} {vs : List V} {ds : List D} (h : H a = some (.lst vs)) (n : ¬ O a) (hd : DVs O K H vs ds) : DV O K H (.ref a) (.list ds) := .lst ⟨SqLX.of h, fun z => absurd z n⟩ hd
theorem settle_ok {pv : PV} (R : Rl K B H0 O σ H ρ) (h : PvOk K H0 O σ H ρ v pv) : ∃ O', Ev O H O' H ∧ Rl K B H0 O' σ H ρ ∧ PvOk K H0 O' σ H ρ v (settle pv) := by
  cases pv with
  | fz d => exact ⟨O, .refl, R, h⟩
  | pl i => exact ⟨O, .refl, R, h⟩
  | ow ds =>
    obtain ⟨a, vs, rfl, h1, h2, h3, h4, h5⟩ := h
    exact ⟨subO O a, Ev.sub fun b z => z.1, R.sub h2 h5, lst_of h3 (fun z => z.2 rfl) (h4.ev (Ev.sub fun b z => z.1))⟩
theorem settled (pv : PV) : Settled (settle pv) := by cases pv <;> trivial
theorem PvOk.keep {pv : PV} (hs : Settled pv) (e : Ev O H O' H') (h : PvOk K H0 O σ H ρ v pv) : PvOk K H0 O' σ H' ρ' v pv := by
  cases pv with
  | fz d => exact DV.ev e h
  | pl i => exact h
  | ow ds => exact hs.elim
noncomputable def rdS : Option (Option PV) → Option D
  | some (some (.fz d)) => some d
  | some (some (.ow ds)) => some (.list ds)
  | _ => none
noncomputable def rdD (ρ : PEnv) : PV → Option D
  | .fz d => some d
  | .ow ds => some (.list ds)
  | .pl i => rdS ρ[i]?
theorem rd_ok {pv : PV} {d : D} (R : Rl K B H0 O σ H ρ) (h : PvOk K H0 O σ H ρ v pv) (e : rdD ρ pv = some d) : DX O K H v d := by
  cases pv with
  | fz d' => cases e; exact DV.x h
  | ow ds =>
    cases e
    obtain ⟨a, vs, rfl, h1, h2, h3, h4, h5⟩ := h
    exact ⟨a, vs, rfl, SqLX.of h3, h4⟩
  | pl i =>
    have e' : rdS ρ[i]? = some d := e
    have h' : σ[i]? = some (some v) := h
    cases q : ρ[i]? with
    | none => rw [q] at e'; cases e'
    | some o =>
      cases o with
      | none => rw [q] at e'; cases e'
      | some x =>
        obtain ⟨u, g1, g2⟩ := R.slot i x q
        rw [h'] at g1
        cases g1
        rw [q] at e'
        cases x with
        | fz d' => cases e'; exact DV.x g2
        | ow ds =>
          cases e'
          obtain ⟨a, vs, rfl, k1, k2, k3, k4⟩ := g2
          exact ⟨a, vs, rfl, SqLX.of k3, k4⟩
        | pl j => exact g2.elim
noncomputable def toS (ρ : PEnv) (i : Nat) : Option (Option PV) → Option (D × PEnv)
  | some (some (.fz d)) => some (d, ρ)
  | some (some (.ow ds)) => some (.list ds, ρ.set i (some (.fz (.list ds))))
  | _ => none
noncomputable def toD (ρ : PEnv) : PV → Option (D × PEnv)
  | .fz d => some (d, ρ)
  | .ow ds => some (.list ds, ρ)
  | .pl i => toS ρ i ρ[i]?
theorem set_get {α : Type} {l : List α} {i j : Nat} {x y : α} (h : (l.set i x)[j]? = some y) : (j = i ∧ y = x) ∨ (j ≠ i ∧ l[j]? = some y) := by
  rw [List.getElem?_set] at h
  by_cases e : i = j
  · rw [if_pos e] at h
    split at h
    · cases h; exact .inl ⟨e.symm, rfl⟩
    · cases h
  · rw [if_neg e] at h; exact .inr ⟨fun z => e z.symm, h⟩
theorem to_ok {pv : PV} {d : D} (R : Rl K B H0 O σ H ρ) (h : PvOk K H0 O σ H ρ v pv) (e : toD ρ pv = some (d, ρ')) : ∃ O', Ev O H O' H ∧ Rl K B H0 O' σ H ρ' ∧ DV O' K H v d := by
  cases pv with
  | fz d' => cases e; exact ⟨O, .refl, R, h⟩
  | ow ds =>
    cases e
    obtain ⟨a, vs, rfl, h1, h2, h3, h4, h5⟩ := h
    exact ⟨subO O a, Ev.sub fun b z => z.1, R.sub h2 h5, lst_of h3 (fun z => z.2 rfl) (h4.ev (Ev.sub fun b z => z.1))⟩
  | pl i =>
    have e' : toS ρ i ρ[i]? = some (d, ρ') := e
    have h' : σ[i]? = some (some v) := h
    cases q : ρ[i]? with
    | none => rw [q] at e'; cases e'
    | some o =>
      cases o with
      | none => rw [q] at e'; cases e'
      | some x =>
        obtain ⟨u, g1, g2⟩ := R.slot i x q
        rw [h'] at g1
        cases g1
        rw [q] at e'
        cases x with
        | fz d' => cases e'; exact ⟨O, .refl, R, g2⟩
        | pl j => exact g2.elim
        | ow ds =>
          cases e'
          obtain ⟨a, vs, rfl, k1, k2, k3, k4⟩ := g2
          have es : Ev O H (subO O a) H := Ev.sub fun b z => z.1
          have dv : DV (subO O a) K H (.ref a) (.list ds) := lst_of k3 (fun z => z.2 rfl) (k4.ev es)
          refine ⟨subO O a, es, ⟨R.same, fun b hb => ⟨R.bo b hb, fun e => R.notB k2 (e ▸ hb)⟩, R.bd, fun b hb z => R.od b hb z.1, by rw [List.length_set]; exact R.len, fun j x hx => ?_, fun j k xs ys w hj hk => ?_⟩, dv⟩
          · rcases set_get hx with ⟨rfl, ee⟩ | ⟨hne, hx⟩
            · cases ee
              exact ⟨_, h', dv⟩
            · obtain ⟨u, m1, m2⟩ := R.slot j x hx
              refine ⟨u, m1, ?_⟩
              cases x with
              | fz d => exact DV.ev es m2
              | pl i => exact m2
              | ow xs =>
                obtain ⟨b, us, rfl, n1, n2, n3, n4⟩ := m2
                exact ⟨b, us, rfl, ⟨n1, fun z => hne (R.one j i xs ds (.ref a) hx q (by rw [m1, z]) h')⟩, n2, n3, n4.ev es⟩
          · rcases set_get hj with ⟨rfl, ee⟩ | ⟨_, hj⟩
            · cases ee
            · rcases set_get hk with ⟨rfl, ee⟩ | ⟨_, hk⟩
              · cases ee
              · exact R.one j k xs ys w hj hk
end
noncomputable def XOk (K : PySem.W.Frag) (B : Own) (H : Hp) (c : Value) (dx : Option Addr) (x : Xc) : Prop :=
  (∃ a, c = .ref a ∧ PySem.W.nsIn K mainGlobals x.cls = some (some (.ref a))) ∧ ∃ fs, (∀ p, dx = some p → H p = some (.xd fs)) ∧ ∀ f d, x.fs.lookup f = some d → dx ≠ none ∧ ∃ v, fs.lookup f = some v ∧ DV B K H v d
noncomputable def XE (K : PySem.W.Frag) (B : Own) (H0 : Hp) (E : XK) (x : Xc) : Prop := ∀ c dx H', Same H0 H' → XOk K B H' c dx x → E c dx H'
noncomputable def WR {α : Type} (K : PySem.W.Frag) (E : XK) (B : Own) (H0 : Hp) (P : α → Prop) : Res α → Prop
  | .ok a => P a
  | .er x => XE K B H0 E x
  | .bad => False
section
variable {K : PySem.W.Frag} {E : XK} {B : Own} {H0 : Hp}
theorem WR.bind {α β : Type} {P : β → Prop} {r : Res α} {k : α → Res β} (h : WR K E B H0 P (r.bind k)) : WR K E B H0 (fun a => WR K E B H0 P (k a)) r := by
  cases r <;> exact h
theorem WR.ofO {α β : Type} {P : β → Prop} {o : Option α} {k : α → Res β} (h : WR K E B H0 P ((Res.ofO o).bind k)) : ∃ a, o = some a ∧ WR K E B H0 P (k a) := by
  cases o with
  | none => exact h.elim
  | some a => exact ⟨a, rfl, h⟩
theorem WR.imp {α : Type} {P P' : α → Prop} {r : Res α} (h : WR K E B H0 P r) (g : ∀ a, P a → P' a) : WR K E B H0 P' r := by
  cases r with
  | ok a => exact g a h
  | er x => exact h
  | bad => exact h
end
noncomputable abbrev FE := PEnv → Res (PV × PEnv)
noncomputable abbrev FT := PEnv → Res (Bool × PEnv)
noncomputable abbrev FA := PEnv → Res (List PV × PEnv)
noncomputable def EO (K : PySem.W.Frag) (E : XK) (t : TE) (f : FE) : Prop :=
  ∀ (B : Own) (H0 : Hp) (O : Own) (σ : St) (H : Hp) (ρ : PEnv) (Q : VK), Rl K B H0 O σ H ρ → WR K E B H0 (fun r => ∀ O' v H', Ev O H O' H' → Rl K B H0 O' σ H' r.2 → PvOk K H0 O' σ H' r.2 v r.1 → Q v H') (f ρ) → t σ H Q
noncomputable def TTO (K : PySem.W.Frag) (E : XK) (t : TT) (f : FT) : Prop :=
  ∀ (B : Own) (H0 : Hp) (O : Own) (σ : St) (H : Hp) (ρ : PEnv) (Q : Bool → Hp → Prop), Rl K B H0 O σ H ρ → WR K E B H0 (fun r => ∀ O' H', Ev O H O' H' → Rl K B H0 O' σ H' r.2 → Q r.1 H') (f ρ) → t σ H Q
noncomputable def AO (K : PySem.W.Frag) (E : XK) (t : TA) (f : FA) : Prop :=
  ∀ (B : Own) (H0 : Hp) (O : Own) (σ : St) (H : Hp) (ρ : PEnv) (Q : List V → Hp → Prop), Rl K B H0 O σ H ρ → WR K E B H0 (fun r => ∀ O' vs H', Ev O H O' H' → Rl K B H0 O' σ H' r.2 → Paired (fun v pv => PvOk K H0 O' σ H' r.2 v pv ∧ Settled pv) vs r.1 → Q vs H') (f ρ) → t σ H Q
end L3
namespace L3
open PySem L2
inductive RV where
  | fz (d : D)
  | ow (ds : List D)
noncomputable def RV.pv : RV → PV
  | .fz d => .fz d
  | .ow ds => .ow ds
noncomputable def Fin (O : Own) (K : PySem.W.Frag) (H : Hp) (Q : VK) : RV → Prop
  | .fz d => ∀ v H', Same H H' → DV O K H' v d → Q v H'
  | .ow ds => ∀ p vs H', Same H H' → H p = none → H' p = some (.lst vs) → DVs (addO O p) K H' vs ds → Q (.ref p) H'
noncomputable def NoneO (O : Own) (H : Hp) : Prop := ∀ a, H a = none → ¬ O a
section
variable {K : PySem.W.Frag} {E : XK} {B O O' : Own} {H0 H H' : Hp} {σ : St} {ρ ρ' : PEnv} {v : V}
theorem fin_of {Q : VK} {rv : RV} (R : Rl K B H0 O σ H ρ) (h : ∀ O' v H', Ev O H O' H' → Rl K B H0 O' σ H' ρ → PvOk K H0 O' σ H' ρ v rv.pv → Q v H') : Fin O K H Q rv := by
  cases rv with
  | fz d => exact fun v H' s dv => h O v H' (Ev.grow s) (R.grow s) dv
  | ow ds =>
    intro p vs H' s hp e dv
    refine h (addO O p) (.ref p) H' (Ev.add s hp) (R.add s hp (by rw [e]; simp)) ⟨p, vs, rfl, .inr rfl, R.none0 hp, e, dv, fun i es hi z => ?_⟩
    obtain ⟨u, h1, a, us, e2, g1, g2, g3, g4⟩ := R.slot i _ hi
    rw [z] at h1
    cases h1
    cases e2
    rw [hp] at g3
    cases g3
theorem Fin.new {Q : VK} {ds : List D} {vs : List V} (hd : DVs O K H vs ds) (h : Fin O K H Q (.ow ds)) : ∀ p, H p = none → Q (.ref p) (upd H p (.lst vs)) := fun p hp =>
  h p vs _ (same_upd hp _) hp upd_same (hd.ev (Ev.add (same_upd hp _) hp))
theorem Fin.newT {Q : VK} {ds : List D} {vs : List V} (hd : DVs O K H vs ds) (hO : NoneO O H) (h : Fin O K H Q (.fz (.tuple ds))) : ∀ p, H p = none → Q (.ref p) (upd H p (.tup vs)) := fun p hp =>
  h (.ref p) _ (same_upd hp _) (.tup ⟨SqT.of upd_same, fun z => absurd z (hO p hp)⟩ (hd.ev (Ev.grow (same_upd hp _))))
theorem Fin.at {Q : VK} {d : D} (h : Fin O K H Q (.fz d)) (hv : DV O K H v d) : Q v H := h v H (Same.refl H) hv
noncomputable def pVarS (ρ : PEnv) (i : Nat) : Option (Option PV) → Res (PV × PEnv)
  | some (some (.fz d)) => .ok (.fz d, ρ)
  | some (some (.ow _)) => .ok (.pl i, ρ)
  | _ => .bad
noncomputable def pVar (i : Nat) : FE := fun ρ => pVarS ρ i ρ[i]?
theorem eo_var {i : Nat} : EO K E (tVar i) (pVar i) := by
  intro B H0 O σ H ρ Q R w
  unfold pVar at w
  cases q : ρ[i]? with
  | none => rw [q] at w; exact w.elim
  | some o =>
    cases o with
    | none => rw [q] at w; exact w.elim
    | some x =>
      rw [q] at w
      obtain ⟨v, h1, h2⟩ := R.slot i x q
      cases x with
      | fz d => exact ⟨v, h1, w O v H .refl R h2⟩
      | ow ds => exact ⟨v, h1, w O v H .refl R h1⟩
      | pl j => exact w.elim
noncomputable def pC (d : D) : FE := fun ρ => .ok (.fz d, ρ)
theorem eo_c {v : V} {d : D} (h : ∀ O H, DV O K H v d) : EO K E (tC v) (pC d) := fun B H0 O σ H ρ Q R w => w O v H .refl R (h O H)
theorem eo_int {i : Int} : EO K E (tC (.int i)) (pC (.int i)) := eo_c fun _ _ => .int i
theorem eo_bl {b : Bool} : EO K E (tC (.bl b)) (pC (.bool b)) := eo_c fun _ _ => .bl b
theorem eo_str {x : Str} : EO K E (tC (.str x)) (pC (.str x)) := eo_c fun _ _ => .str x
theorem eo_non : EO K E (tC .non) (pC .none) := eo_c fun _ _ => .non
noncomputable def OpP (K : PySem.W.Frag) (r : R2) (f : D → D → Option RV) : Prop := ∀ (O : Own) (H : Hp) (x y : V) (dx dy : D) (rv : RV) (Q : VK), NoneO O H → DX O K H x dx → DX O K H y dy → f dx dy = some rv → Fin O K H Q rv → r x y H Q
noncomputable def pOp (f : D → D → Option RV) (fa fb : FE) : FE := fun ρ => (fa ρ).bind fun a => (fb a.2).bind fun b => (Res.ofO (rdD b.2 (settle a.1))).bind fun dx => (Res.ofO (rdD b.2 b.1)).bind fun dy => (Res.ofO (f dx dy)).bind fun rv => .ok (rv.pv, b.2)
theorem eo_op {r : R2} {f : D → D → Option RV} {ta tb : TE} {fa fb : FE} (hr : OpP K r f) (ha : EO K E ta fa) (hb : EO K E tb fb) : EO K E (tOp r ta tb) (pOp f fa fb) := by
  intro B H0 O σ H ρ Q R w
  refine ha B H0 O σ H ρ _ R (w.bind.imp fun a w1 O1 x H1 e1 R1 p1 => ?_)
  obtain ⟨O2, e2, R2, p2⟩ := settle_ok R1 p1
  refine hb B H0 O2 σ H1 a.2 _ R2 (w1.bind.imp fun b w2 O3 y H3 e3 R3 p3 => ?_)
  have p2' := p2.keep (settled a.1) e3 (ρ' := b.2)
  obtain ⟨dx, qx, w2⟩ := w2.ofO
  obtain ⟨dy, qy, w2⟩ := w2.ofO
  obtain ⟨rv, qf, w2⟩ := w2.ofO
  refine hr O3 H3 x y dx dy rv Q R3.od (rd_ok R3 p2' qx) (rd_ok R3 p3 qy) qf (fin_of R3 fun O4 v H4 e4 R4 p4 => ?_)
  exact w2 O4 v H4 (e1.trans (e2.trans (e3.trans e4))) R4 p4
noncomputable def UnP (K : PySem.W.Frag) (r : V → Hp → VK → Prop) (f : D → Option RV) : Prop := ∀ (O : Own) (H : Hp) (x : V) (dx : D) (rv : RV) (Q : VK), NoneO O H → DX O K H x dx → f dx = some rv → Fin O K H Q rv → r x H Q
noncomputable def pUn (f : D → Option RV) (fa : FE) : FE := fun ρ => (fa ρ).bind fun a => (Res.ofO (rdD a.2 a.1)).bind fun dx => (Res.ofO (f dx)).bind fun rv => .ok (rv.pv, a.2)
theorem eo_un {r : V → Hp → VK → Prop} {f : D → Option RV} {ta : TE} {fa : FE} (hr : UnP K r f) (ha : EO K E ta fa) : EO K E (tUn r ta) (pUn f fa) := by
  intro B H0 O σ H ρ Q R w
  refine ha B H0 O σ H ρ _ R (w.bind.imp fun a w1 O1 x H1 e1 R1 p1 => ?_)
  obtain ⟨dx, qx, w1⟩ := w1.ofO
  obtain ⟨rv, qf, w1⟩ := w1.ofO
  exact hr O1 H1 x dx rv Q R1.od (rd_ok R1 p1 qx) qf (fin_of R1 fun O4 v H4 e4 R4 p4 => w1 O4 v H4 (e1.trans e4) R4 p4)
noncomputable def asB : D → Option Bool
  | .bool b => some b
  | _ => none
theorem asB_ok {O : Own} {H : Hp} {x : V} {d : D} {b : Bool} (h : DX O K H x d) (e : asB d = some b) : x = .bl b := by
  cases d <;> cases e
  cases h
  rfl
noncomputable def pBool (fa : FE) : PEnv → Res (Bool × PEnv) := fun ρ => (fa ρ).bind fun a => (Res.ofO (rdD a.2 a.1)).bind fun d => (Res.ofO (asB d)).bind fun b => .ok (b, a.2)
theorem tto_test {ta : TE} {fa : FE} (ha : EO K E ta fa) : TTO K E (tTest ta) (pBool fa) := by
  intro B H0 O σ H ρ Q R w
  refine ha B H0 O σ H ρ _ R (w.bind.imp fun a w1 O1 x H1 e1 R1 p1 => ?_)
  obtain ⟨d, qd, w1⟩ := w1.ofO
  obtain ⟨b, qb, w1⟩ := w1.ofO
  exact ⟨b, asB_ok (rd_ok R1 p1 qd) qb, w1 O1 H1 e1 R1⟩
theorem tto_b {ta : TE} {fa : FE} (ha : EO K E ta fa) : TTO K E (tB ta) (pBool fa) := tto_test ha
noncomputable def qAnd (fa fb : FT) : FT := fun ρ => (fa ρ).bind fun a => if a.1 = true then fb a.2 else .ok (false, a.2)
noncomputable def qOr (fa fb : FT) : FT := fun ρ => (fa ρ).bind fun a => if a.1 = true then .ok (true, a.2) else fb a.2
noncomputable def qNot (fa : FT) : FT := fun ρ => (fa ρ).bind fun a => .ok (!a.1, a.2)
theorem TTO.next {t : TT} {f : FT} {Q : Bool → Hp → Prop} (h : TTO K E t f) {O1 : Own} {H1 : Hp} {ρ : PEnv} (R : Rl K B H0 O1 σ H1 ρ) (e1 : Ev O H O1 H1) (w : WR K E B H0 (fun r => ∀ O' H', Ev O H O' H' → Rl K B H0 O' σ H' r.2 → Q r.1 H') (f ρ)) : t σ H1 Q :=
  h B H0 O1 σ H1 ρ Q R (w.imp fun r q O' H' e' R' => q O' H' (e1.trans e') R')
theorem EO.next {t : TE} {f : FE} {Q : VK} (h : EO K E t f) {O1 : Own} {H1 : Hp} {ρ : PEnv} (R : Rl K B H0 O1 σ H1 ρ) (e1 : Ev O H O1 H1) (w : WR K E B H0 (fun r => ∀ O' v H', Ev O H O' H' → Rl K B H0 O' σ H' r.2 → PvOk K H0 O' σ H' r.2 v r.1 → Q v H') (f ρ)) : t σ H1 Q :=
  h B H0 O1 σ H1 ρ Q R (w.imp fun r q O' v H' e' R' p' => q O' v H' (e1.trans e') R' p')
theorem tto_and {t u : TT} {f g : FT} (h1 : TTO K E t f) (h2 : TTO K E u g) : TTO K E (tAnd t u) (qAnd f g) := by
  intro B H0 O σ H ρ Q R w
  refine h1 B H0 O σ H ρ _ R (w.bind.imp fun a w1 O1 H1 e1 R1 => ?_)
  obtain ⟨b, ρ1⟩ := a
  cases b with
  | true => exact h2.next R1 e1 w1
  | false => exact w1 O1 H1 e1 R1
theorem tto_or {t u : TT} {f g : FT} (h1 : TTO K E t f) (h2 : TTO K E u g) : TTO K E (tOr t u) (qOr f g) := by
  intro B H0 O σ H ρ Q R w
  refine h1 B H0 O σ H ρ _ R (w.bind.imp fun a w1 O1 H1 e1 R1 => ?_)
  obtain ⟨b, ρ1⟩ := a
  cases b with
  | true => exact w1 O1 H1 e1 R1
  | false => exact h2.next R1 e1 w1
theorem tto_not {t : TT} {f : FT} (h1 : TTO K E t f) : TTO K E (tNot t) (qNot f) := by
  intro B H0 O σ H ρ Q R w
  exact h1 B H0 O σ H ρ _ R (w.bind.imp fun a w1 O1 H1 e1 R1 => w1 O1 H1 e1 R1)
noncomputable def qTrue : FT := fun ρ => .ok (true, ρ)
theorem tto_true : TTO K E tTrue qTrue := fun B H0 O σ H ρ Q R w => w O H .refl R
noncomputable def pAnd (fa fb : FE) : FE := fun ρ => (pBool fa ρ).bind fun a => if a.1 = true then fb a.2 else .ok (.fz (.bool false), a.2)
noncomputable def pNot (fa : FE) : FE := fun ρ => (pBool fa ρ).bind fun a => .ok (.fz (.bool (!a.1)), a.2)
theorem eo_and {ta tb : TE} {fa fb : FE} (ha : EO K E ta fa) (hb : EO K E tb fb) : EO K E (tAndV ta tb) (pAnd fa fb) := by
  intro B H0 O σ H ρ Q R w
  refine tto_test ha B H0 O σ H ρ (fun c H1 => if c = true then tb σ H1 Q else Q (.bl false) H1) R (w.bind.imp fun a w1 O1 H1 e1 R1 => ?_)
  obtain ⟨b, ρ1⟩ := a
  cases b with
  | true => exact hb.next R1 e1 w1
  | false => exact w1 O1 _ H1 e1 R1 (.bl false)
theorem eo_not {ta : TE} {fa : FE} (ha : EO K E ta fa) : EO K E (tNotV ta) (pNot fa) := by
  intro B H0 O σ H ρ Q R w
  exact tto_test ha B H0 O σ H ρ (fun c H1 => Q (.bl (!c)) H1) R (w.bind.imp fun a w1 O1 H1 e1 R1 => w1 O1 _ H1 e1 R1 (.bl _))
noncomputable def pChain (f g : D → D → Option RV) (fa fb fc : FE) : FE := fun ρ => (fa ρ).bind fun a => (fb a.2).bind fun b => (Res.ofO (rdD b.2 (settle a.1))).bind fun dx => (Res.ofO (rdD b.2 (settle b.1))).bind fun dy =>
  (Res.ofO (f dx dy)).bind fun rv => match rv with
    | .fz (.bool true) => (fc b.2).bind fun c => (Res.ofO (rdD c.2 (settle b.1))).bind fun dy' => (Res.ofO (rdD c.2 c.1)).bind fun dz => (Res.ofO (g dy' dz)).bind fun rv => .ok (rv.pv, c.2)
    | .fz (.bool false) => .ok (.fz (.bool false), b.2)
    | _ => .bad
theorem eo_chain {r r' : R2} {f g : D → D → Option RV} {ta tb tc : TE} {fa fb fc : FE} (hr : OpP K r f) (hr' : OpP K r' g) (ha : EO K E ta fa) (hb : EO K E tb fb) (hc : EO K E tc fc) : EO K E (tChain r r' ta tb tc) (pChain f g fa fb fc) := by
  intro B H0 O σ H ρ Q R w
  refine ha B H0 O σ H ρ _ R (w.bind.imp fun a w1 O1 x H1 e1 R1 p1 => ?_)
  obtain ⟨O2, e2, R2, p2⟩ := settle_ok R1 p1
  refine hb B H0 O2 σ H1 a.2 _ R2 (w1.bind.imp fun b w2 O3' y H3 e3' R3' p3' => ?_)
  obtain ⟨O3, e3, R3, p3⟩ := settle_ok R3' p3'
  have e3 := e3'.trans e3
  have p2' := p2.keep (settled a.1) e3 (ρ' := b.2)
  obtain ⟨dx, qx, w2⟩ := w2.ofO
  obtain ⟨dy, qy, w2⟩ := w2.ofO
  obtain ⟨rv, qf, w2⟩ := w2.ofO
  refine hr O3 H3 x y dx dy rv _ R3.od (rd_ok R3 p2' qx) (rd_ok R3 p3 qy) qf ?_
  cases rv with
  | ow ds => exact w2.elim
  | fz d =>
    intro v H' s dv
    cases dv with
    | bl k =>
      refine ⟨k, rfl, ?_⟩
      have R4 := R3.grow s
      have e4 : Ev O3 H3 O3 H' := Ev.grow s
      cases k with
      | false => exact w2 O3 _ H' (e1.trans (e2.trans (e3.trans e4))) R4 (.bl false)
      | true =>
        rw [if_pos rfl]
        refine hc B H0 O3 σ H' b.2 _ R4 (WR.imp (WR.bind w2) fun c w3 O5 z H5 e5 R5 p5 => ?_)
        obtain ⟨dy', qy', w3⟩ := w3.ofO
        obtain ⟨dz, qz, w3⟩ := w3.ofO
        obtain ⟨rv, qg, w3⟩ := w3.ofO
        refine hr' O5 H5 y z dy' dz rv Q R5.od (rd_ok R5 (p3.keep (settled b.1) (e4.trans e5)) qy') (rd_ok R5 p5 qz) qg (fin_of R5 fun O6 v H6 e6 R6 p6 => ?_)
        exact w3 O6 v H6 (e1.trans (e2.trans (e3.trans (e4.trans (e5.trans e6))))) R6 p6
    | _ => exact w2.elim
noncomputable def aNil : FA := fun ρ => .ok ([], ρ)
noncomputable def aCons (fa : FE) (fr : FA) : FA := fun ρ => (fa ρ).bind fun a => (fr a.2).bind fun b => .ok (settle a.1 :: b.1, b.2)
theorem ao_nil : AO K E tNil aNil := fun B H0 O σ H ρ Q R w => w O [] H .refl R .nil
theorem ao_cons {ta : TE} {tr : TA} {fa : FE} {fr : FA} (ha : EO K E ta fa) (hr : AO K E tr fr) : AO K E (tCons ta tr) (aCons fa fr) := by
  intro B H0 O σ H ρ Q R w
  refine ha B H0 O σ H ρ _ R (w.bind.imp fun a w1 O1 x H1 e1 R1 p1 => ?_)
  obtain ⟨O2, e2, R2, p2⟩ := settle_ok R1 p1
  refine hr B H0 O2 σ H1 a.2 _ R2 (w1.bind.imp fun b w2 O3 ys H3 e3 R3 p3 => ?_)
  exact w2 O3 (x :: ys) H3 (e1.trans (e2.trans e3)) R3 (.cons ⟨p2.keep (settled a.1) e3, settled a.1⟩ p3)
noncomputable def rdDs (ρ : PEnv) : List PV → Option (List D)
  | [] => some []
  | p :: r => match rdD ρ p with
    | some d => (match rdDs ρ r with
      | some ds => some (d :: ds)
      | none => none)
    | none => none
theorem rds_ok (R : Rl K B H0 O σ H ρ) : ∀ {vs : List V} {ps : List PV} {ds : List D}, Paired (fun v pv => PvOk K H0 O σ H ρ v pv ∧ Settled pv) vs ps → rdDs ρ ps = some ds → Paired (DX O K H) vs ds
  | _, _, _, .nil, e => by cases e; exact .nil
  | _, _, _, .cons (l₁ := vs) (l₂ := ps) (b := p) h t, e => by
    unfold rdDs at e
    cases q : rdD ρ p with
    | none => rw [q] at e; cases e
    | some d =>
      rw [q] at e
      dsimp only at e
      cases q2 : rdDs ρ ps with
      | none => rw [q2] at e; cases e
      | some ds' =>
        rw [q2] at e
        cases e
        exact .cons (rd_ok R h.1 q) (rds_ok R t q2)
noncomputable def toDs (ρ : PEnv) : List PV → Option (List D × PEnv)
  | [] => some ([], ρ)
  | p :: r => match toD ρ p with
    | some (d, ρ1) => (match toDs ρ1 r with
      | some (ds, ρ2) => some (d :: ds, ρ2)
      | none => none)
    | none => none
theorem tos_ok : ∀ {vs : List V} {ps : List PV} {ds : List D} {O : Own} {ρ ρ' : PEnv}, Rl K B H0 O σ H ρ → Paired (fun v pv => PvOk K H0 O σ H ρ v pv ∧ Settled pv) vs ps → toDs ρ ps = some (ds, ρ') → ∃ O', Ev O H O' H ∧ Rl K B H0 O' σ H ρ' ∧ DVs O' K H vs ds
  | _, _, _, O, _, _, R, .nil, e => by cases e; exact ⟨O, .refl, R, .nil⟩
  | _, _, _, O, ρ, ρ', R, .cons (l₁ := vs) (l₂ := ps) (b := p) h t, e => by
    unfold toDs at e
    cases q : toD ρ p with
    | none => rw [q] at e; cases e
    | some r =>
      obtain ⟨d, ρ1⟩ := r
      rw [q] at e
      dsimp only at e
      cases q2 : toDs ρ1 ps with
      | none => rw [q2] at e; cases e
      | some r2 =>
        obtain ⟨ds', ρ2⟩ := r2
        rw [q2] at e
        cases e
        obtain ⟨O1, e1, R1, d1⟩ := to_ok R h.1 q
        have t1 : Paired (fun v pv => PvOk K H0 O1 σ H ρ1 v pv ∧ Settled pv) vs ps := Paired.mapP t fun v pv ⟨h1, h2⟩ => ⟨h1.keep h2 e1, h2⟩
        obtain ⟨O2, e2, R2, d2⟩ := tos_ok R1 t1 q2
        exact ⟨O2, e1.trans e2, R2, .cons (d1.ev e2) d2⟩
noncomputable abbrev FN := List D → Res RV
noncomputable def spP (K : PySem.W.Frag) (n : Nat) (F : FN) : Sp := fun vs H Q E => vs.length = n ∧ ∃ (B : Own) (ds : List D), (∀ a, B a → H a ≠ none) ∧ DVs B K H vs ds ∧ WR K E B H (Fin B K H Q) (F ds)
noncomputable def pTup (fa : FA) : FE := fun ρ => (fa ρ).bind fun a => (Res.ofO (toDs a.2 a.1)).bind fun b => if b.1.length ≤ 1000 then .ok (.fz (.tuple b.1), b.2) else .bad
noncomputable def pLst (fa : FA) : FE := fun ρ => (fa ρ).bind fun a => (Res.ofO (toDs a.2 a.1)).bind fun b => if b.1.length ≤ 1000 then .ok (.ow b.1, b.2) else .bad
theorem le1000 {n : Nat} (h : n ≤ 1000) : n ≤ sizeLine := Nat.le_trans h (by decide)
theorem eo_tup {ta : TA} {fa : FA} (ha : AO K E ta fa) : EO K E (tTup ta) (pTup fa) := by
  intro B H0 O σ H ρ Q R w
  refine ha B H0 O σ H ρ _ R (w.bind.imp fun a w1 O1 vs H1 e1 R1 p1 => ?_)
  obtain ⟨⟨ds, ρ2⟩, q, w2⟩ := w1.ofO
  obtain ⟨O2, e2, R2, dv⟩ := tos_ok R1 p1 q
  dsimp only at w2
  by_cases hn : ds.length ≤ 1000
  · rw [if_pos hn] at w2
    refine ⟨by rw [dv.length]; exact le1000 hn, Fin.newT dv R2.od (fin_of (rv := .fz (.tuple ds)) R2 fun O3 v H3 e3 R3 p3 => w2 O3 v H3 (e1.trans (e2.trans e3)) R3 p3)⟩
  · rw [if_neg hn] at w2
    exact w2.elim
theorem eo_lst {ta : TA} {fa : FA} (ha : AO K E ta fa) : EO K E (tLst ta) (pLst fa) := by
  intro B H0 O σ H ρ Q R w
  refine ha B H0 O σ H ρ _ R (w.bind.imp fun a w1 O1 vs H1 e1 R1 p1 => ?_)
  obtain ⟨⟨ds, ρ2⟩, q, w2⟩ := w1.ofO
  obtain ⟨O2, e2, R2, dv⟩ := tos_ok R1 p1 q
  dsimp only at w2
  by_cases hn : ds.length ≤ 1000
  · rw [if_pos hn] at w2
    refine ⟨by rw [dv.length]; exact le1000 hn, Fin.new dv (fin_of (rv := .ow ds) R2 fun O3 v H3 e3 R3 p3 => w2 O3 v H3 (e1.trans (e2.trans e3)) R3 p3)⟩
  · rw [if_neg hn] at w2
    exact w2.elim
noncomputable def CbP (K : PySem.W.Frag) (r : List V → Hp → VK → Prop) (f : List D → Option RV) : Prop := ∀ (O : Own) (H : Hp) (xs : List V) (ds : List D) (rv : RV) (Q : VK), NoneO O H → Paired (DX O K H) xs ds → f ds = some rv → Fin O K H Q rv → r xs H Q
noncomputable def pCB (f : List D → Option RV) (fa : FA) : FE := fun ρ => (fa ρ).bind fun a => (Res.ofO (rdDs a.2 a.1)).bind fun ds => (Res.ofO (f ds)).bind fun rv => .ok (rv.pv, a.2)
theorem eo_cb {r : List V → Hp → VK → Prop} {f : List D → Option RV} {ta : TA} {fa : FA} (hr : CbP K r f) (ha : AO K E ta fa) : EO K E (tCB r ta) (pCB f fa) := by
  intro B H0 O σ H ρ Q R w
  refine ha B H0 O σ H ρ _ R (w.bind.imp fun a w1 O1 vs H1 e1 R1 p1 => ?_)
  obtain ⟨ds, q, w2⟩ := w1.ofO
  obtain ⟨rv, qf, w2⟩ := w2.ofO
  exact hr O1 H1 vs ds rv Q R1.od (rds_ok R1 p1 q) qf (fin_of R1 fun O4 v H4 e4 R4 p4 => w2 O4 v H4 (e1.trans e4) R4 p4)
noncomputable def asI : D → Option Int
  | .int i => some i
  | _ => none
theorem asI_ok {O : Own} {H : Hp} {x : V} {d : D} {i : Int} (h : DX O K H x d) (e : asI d = some i) : x = .int i := by
  cases d <;> cases e
  cases h
  rfl
noncomputable abbrev FO := PEnv → Res (Option Int × PEnv)
noncomputable def TOO (K : PySem.W.Frag) (E : XK) (t : TO) (f : FO) : Prop :=
  ∀ (B : Own) (H0 : Hp) (O : Own) (σ : St) (H : Hp) (ρ : PEnv) (Q : Option Int → Hp → Prop), Rl K B H0 O σ H ρ → WR K E B H0 (fun r => ∀ O' H', Ev O H O' H' → Rl K B H0 O' σ H' r.2 → Q r.1 H') (f ρ) → t σ H Q
noncomputable def oNone : FO := fun ρ => .ok (none, ρ)
noncomputable def oSome (fa : FE) : FO := fun ρ => (fa ρ).bind fun a => (Res.ofO (rdD a.2 a.1)).bind fun d => (Res.ofO (asI d)).bind fun i => .ok (some i, a.2)
theorem too_none : TOO K E tNoPart oNone := fun B H0 O σ H ρ Q R w => w O H .refl R
theorem too_some {ta : TE} {fa : FE} (ha : EO K E ta fa) : TOO K E (tPart ta) (oSome fa) := by
  intro B H0 O σ H ρ Q R w
  refine ha B H0 O σ H ρ _ R (w.bind.imp fun a w1 O1 x H1 e1 R1 p1 => ?_)
  obtain ⟨d, q, w2⟩ := w1.ofO
  obtain ⟨i, qi, w2⟩ := w2.ofO
  exact ⟨i, asI_ok (rd_ok R1 p1 q) qi, w2 O1 H1 e1 R1⟩
noncomputable def SlP (K : PySem.W.Frag) (r : V → Option Int → Option Int → Hp → VK → Prop) (f : D → Option Int → Option Int → Option RV) : Prop := ∀ (O : Own) (H : Hp) (x : V) (lo hi : Option Int) (dx : D) (rv : RV) (Q : VK), NoneO O H → DX O K H x dx → f dx lo hi = some rv → Fin O K H Q rv → r x lo hi H Q
noncomputable def pSl (f : D → Option Int → Option Int → Option RV) (fa : FE) (fl fh : FO) : FE := fun ρ => (fa ρ).bind fun a => (fl a.2).bind fun l => (fh l.2).bind fun h => (Res.ofO (rdD h.2 (settle a.1))).bind fun dx => (Res.ofO (f dx l.1 h.1)).bind fun rv => .ok (rv.pv, h.2)
theorem eo_sl {r : V → Option Int → Option Int → Hp → VK → Prop} {f : D → Option Int → Option Int → Option RV} {ta : TE} {tl th : TO} {fa : FE} {fl fh : FO} (hr : SlP K r f) (ha : EO K E ta fa) (hl : TOO K E tl fl) (hh : TOO K E th fh) : EO K E (tSl r ta tl th) (pSl f fa fl fh) := by
  intro B H0 O σ H ρ Q R w
  refine ha B H0 O σ H ρ _ R (w.bind.imp fun a w1 O1 x H1 e1 R1 p1 => ?_)
  obtain ⟨O2, e2, R2, p2⟩ := settle_ok R1 p1
  refine hl B H0 O2 σ H1 a.2 _ R2 (w1.bind.imp fun l w2 O3 H3 e3 R3 => ?_)
  refine hh B H0 O3 σ H3 l.2 _ R3 (w2.bind.imp fun h w3 O4 H4 e4 R4 => ?_)
  obtain ⟨dx, qx, w3⟩ := w3.ofO
  obtain ⟨rv, qf, w3⟩ := w3.ofO
  exact hr O4 H4 x l.1 h.1 dx rv Q R4.od (rd_ok R4 (p2.keep (settled a.1) (e3.trans e4)) qx) qf (fin_of R4 fun O5 v H5 e5 R5 p5 => w3 O5 v H5 (e1.trans (e2.trans (e3.trans (e4.trans e5)))) R5 p5)
end
end L3
namespace L3
open PySem L2
theorem set_hit {α : Type} {l : List α} {i : Nat} {x y : α} (h : (l.set i x)[i]? = some y) : i < l.length := by
  rw [List.getElem?_set] at h
  rw [if_pos rfl] at h
  split at h
  · assumption
  · cases h
section
variable {K : PySem.W.Frag} {E : XK} {B O O' : Own} {H0 H H' : Hp} {σ : St} {ρ ρ' : PEnv} {v : V}
theorem Rl.mut {i : Nat} {ds ds' : List D} {a : Addr} {vs' : List V} (R : Rl K B H0 O σ H ρ) (hi : ρ[i]? = some (some (.ow ds))) (hv : σ[i]? = some (some (.ref a))) (hO : O a) (h0 : H0 a = none) (hd : DVs O K H vs' ds') :
    Rl K B H0 O σ (upd H a (.lst vs')) (ρ.set i (some (.ow ds'))) := by
  have ev : Ev O H O (upd H a (.lst vs')) := Ev.mut hO _
  refine ⟨fun b o e => by rw [upd_ne (ne_of_none e h0)]; exact R.same b o e, R.bo, R.bd, fun b hb => ?_, by rw [List.length_set]; exact R.len, fun j x hx => ?_, fun j k xs ys w hj hk hj2 hk2 => ?_⟩
  · by_cases e : b = a
    · rw [e, upd_same] at hb; cases hb
    · rw [upd_ne e] at hb; exact R.od b hb
  · rcases set_get hx with ⟨rfl, ee⟩ | ⟨hne, hx⟩
    · cases ee
      exact ⟨_, hv, a, vs', rfl, hO, h0, upd_same, hd.ev ev⟩
    · obtain ⟨u, m1, m2⟩ := R.slot j x hx
      refine ⟨u, m1, ?_⟩
      cases x with
      | fz d => exact DV.ev ev m2
      | pl i => exact m2
      | ow xs =>
        obtain ⟨b, us, rfl, n1, n2, n3, n4⟩ := m2
        have hba : b ≠ a := fun z => hne (R.one j i xs ds (.ref a) hx hi (by rw [m1, z]) hv)
        exact ⟨b, us, rfl, n1, n2, by rw [upd_ne hba]; exact n3, n4.ev ev⟩
  · have own : ∀ {j : Nat} {xs : List D}, (ρ.set i (some (.ow ds')))[j]? = some (some (.ow xs)) → ∃ ys, ρ[j]? = some (some (.ow ys)) := fun {j xs} h => by
      rcases set_get h with ⟨rfl, _⟩ | ⟨_, h⟩
      · exact ⟨_, hi⟩
      · exact ⟨_, h⟩
    obtain ⟨xs', hj'⟩ := own hj
    obtain ⟨ys', hk'⟩ := own hk
    exact R.one j k xs' ys' w hj' hk' hj2 hk2
theorem lt1e6 {n : Nat} (h : n < 1000000) : n < sizeLine := Nat.lt_of_lt_of_le h (by decide)
noncomputable def asOw : Option (Option PV) → Option (List D)
  | some (some (.ow ds)) => some ds
  | _ => none
theorem asOw_ok {o : Option (Option PV)} {ds : List D} (h : asOw o = some ds) : o = some (some (.ow ds)) := by
  unfold asOw at h
  split at h
  · cases h; rfl
  · cases h
noncomputable def pApp (i : Nat) (fe : FE) : FE := fun ρ => (Res.ofO (asOw ρ[i]?)).bind fun _ => (fe ρ).bind fun a => (Res.ofO (toD a.2 a.1)).bind fun b => (Res.ofO (asOw b.2[i]?)).bind fun ds =>
  if ds.length < 1000000 then .ok (.fz .none, b.2.set i (some (.ow (ds ++ [b.1])))) else .bad
theorem eo_app {i : Nat} {te : TE} {fe : FE} (he : EO K E te fe) : EO K E (tBM K "list" rAppend (tVar i) (tCons te tNil)) (pApp i fe) := by
  intro B H0 O σ H ρ Q R w
  obtain ⟨ds0, q0, w⟩ := w.ofO
  obtain ⟨v, g1, a, vs, rfl, g2, g3, g4, g5⟩ := R.slot i _ (asOw_ok q0)
  refine ⟨_, g1, .inl ⟨rfl, _, SqL.of g4⟩, ?_⟩
  refine he B H0 O σ H ρ _ R (w.bind.imp fun b w1 O1 y H1 e1 R1 p1 => ?_)
  obtain ⟨⟨d, ρ2⟩, qd, w1⟩ := w1.ofO
  obtain ⟨O2, e2, R2, dv⟩ := to_ok R1 p1 qd
  obtain ⟨ds, qo, w1⟩ := w1.ofO
  have qo := asOw_ok qo
  obtain ⟨v', k1, a', vs', e', k2, k3, k4, k5⟩ := R2.slot i _ qo
  subst e'
  rw [g1] at k1
  cases k1
  dsimp only at w1
  by_cases hl : ds.length < 1000000
  · rw [if_pos hl] at w1
    refine ⟨a, vs', y, rfl, rfl, k4, lt1e6 (by rw [k5.length]; exact hl), ?_⟩
    exact w1 O2 .non _ (e1.trans (e2.trans (Ev.mut k2 _))) (R2.mut qo g1 k2 k3 (k5.append (.cons dv .nil))) .non
  · rw [if_neg hl] at w1
    exact w1.elim
noncomputable abbrev FG := PV → PEnv → Res PEnv
noncomputable abbrev FGs := List D → PEnv → Res PEnv
noncomputable def GO (K : PySem.W.Frag) (E : XK) (g : TG) (f : FG) : Prop :=
  ∀ (B : Own) (H0 : Hp) (O : Own) (σ : St) (H : Hp) (ρ : PEnv) (v : V) (pv : PV) (Q : St → Hp → Prop), Rl K B H0 O σ H ρ → PvOk K H0 O σ H ρ v pv → WR K E B H0 (fun ρ' => ∀ O' σ' H', Ev O H O' H' → Rl K B H0 O' σ' H' ρ' → Q σ' H') (f pv ρ) → g v σ H Q
noncomputable def GsO (K : PySem.W.Frag) (E : XK) (g : TGs) (f : FGs) : Prop :=
  ∀ (B : Own) (H0 : Hp) (O : Own) (σ : St) (H : Hp) (ρ : PEnv) (vs : List V) (ds : List D) (Q : St → Hp → Prop), Rl K B H0 O σ H ρ → DVs O K H vs ds → WR K E B H0 (fun ρ' => ∀ O' σ' H', Ev O H O' H' → Rl K B H0 O' σ' H' ρ' → Q σ' H') (f ds ρ) → g vs σ H Q
theorem Rl.setF {i : Nat} {d : D} (R : Rl K B H0 O σ H ρ) (h : DV O K H v d) : Rl K B H0 O (σ.set i (some v)) H (ρ.set i (some (.fz d))) := by
  refine ⟨R.same, R.bo, R.bd, R.od, by rw [List.length_set, List.length_set]; exact R.len, fun j x hx => ?_, fun j k xs ys w hj hk hj2 hk2 => ?_⟩
  · rcases set_get hx with ⟨rfl, e⟩ | ⟨hne, hx⟩
    · cases e
      have := set_hit hx
      exact ⟨v, by rw [List.getElem?_set, if_pos rfl, if_pos (by rw [R.len]; exact this)], h⟩
    · obtain ⟨u, m1, m2⟩ := R.slot j x hx
      exact ⟨u, by rw [List.getElem?_set, if_neg (fun z => hne z.symm)]; exact m1, m2⟩
  · rcases set_get hj with ⟨rfl, ee⟩ | ⟨n1, hj⟩
    · cases ee
    · rcases set_get hk with ⟨rfl, ee⟩ | ⟨n2, hk⟩
      · cases ee
      · rw [List.getElem?_set, if_neg (fun z => n1 z.symm)] at hj2
        rw [List.getElem?_set, if_neg (fun z => n2 z.symm)] at hk2
        exact R.one j k xs ys w hj hk hj2 hk2
theorem Rl.setO {i : Nat} {ds : List D} (R : Rl K B H0 O σ H ρ) (h : PvOk K H0 O σ H ρ v (.ow ds)) : Rl K B H0 O (σ.set i (some v)) H (ρ.set i (some (.ow ds))) := by
  obtain ⟨a, vs, rfl, h1, h2, h3, h4, h5⟩ := h
  refine ⟨R.same, R.bo, R.bd, R.od, by rw [List.length_set, List.length_set]; exact R.len, fun j x hx => ?_, fun j k xs ys w hj hk hj2 hk2 => ?_⟩
  · rcases set_get hx with ⟨rfl, e⟩ | ⟨hne, hx⟩
    · cases e
      have := set_hit hx
      exact ⟨.ref a, by rw [List.getElem?_set, if_pos rfl, if_pos (by rw [R.len]; exact this)], a, vs, rfl, h1, h2, h3, h4⟩
    · obtain ⟨u, m1, m2⟩ := R.slot j x hx
      exact ⟨u, by rw [List.getElem?_set, if_neg (fun z => hne z.symm)]; exact m1, m2⟩
  · rcases set_get hj with ⟨rfl, ee⟩ | ⟨n1, hjj⟩
    · rcases set_get hk with ⟨rfl, ee2⟩ | ⟨n2, hk⟩
      · rfl
      · rw [List.getElem?_set, if_neg (fun z => n2 z.symm)] at hk2
        rcases set_get hj2 with ⟨_, e⟩ | ⟨z, _⟩
        · cases e; exact absurd hk2 (h5 k ys hk)
        · exact absurd rfl z
    · have hj' := hjj
      rw [List.getElem?_set, if_neg (fun z => n1 z.symm)] at hj2
      rcases set_get hk with ⟨rfl, ee⟩ | ⟨n2, hk⟩
      · rcases set_get hk2 with ⟨_, e⟩ | ⟨z, _⟩
        · cases e; exact absurd hj2 (h5 j xs hjj)
        · exact absurd rfl z
      · rw [List.getElem?_set, if_neg (fun z => n2 z.symm)] at hk2
        exact R.one j k xs ys w hjj hk hj2 hk2
noncomputable def gN (i : Nat) : FG := fun pv ρ => match pv with
  | .ow ds => .ok (ρ.set i (some (.ow ds)))
  | .fz d => .ok (ρ.set i (some (.fz d)))
  | .pl j => (Res.ofO (toD ρ (.pl j))).bind fun b => .ok (b.2.set i (some (.fz b.1)))
theorem go_name {i : Nat} : GO K E (gName i) (gN i) := by
  intro B H0 O σ H ρ v pv Q R p w
  cases pv with
  | ow ds => exact w O _ H .refl (R.setO p)
  | fz d => exact w O _ H .refl (R.setF p)
  | pl j =>
    obtain ⟨⟨d, ρ2⟩, q, w⟩ := WR.ofO (show WR K E B H0 _ ((Res.ofO (toD ρ (.pl j))).bind fun b => .ok (b.2.set i (some (.fz b.1)))) from w)
    obtain ⟨O2, e2, R2, dv⟩ := to_ok R p q
    exact w O2 _ H e2 (R2.setF dv)
noncomputable def gsN : FGs := fun ds ρ => match ds with
  | [] => .ok ρ
  | _ => .bad
noncomputable def gsC (f : FG) (g : FGs) : FGs := fun ds ρ => match ds with
  | [] => .bad
  | d :: r => (f (.fz d) ρ).bind fun ρ1 => g r ρ1
theorem gs_nil : GsO K E gNil gsN := by
  intro B H0 O σ H ρ vs ds Q R dv w
  cases dv with
  | nil => exact ⟨rfl, w O σ H .refl R⟩
  | cons _ _ => exact w.elim
theorem gs_cons {t : TG} {u : TGs} {f : FG} {g : FGs} (h1 : GO K E t f) (h2 : GsO K E u g) : GsO K E (gCons t u) (gsC f g) := by
  intro B H0 O σ H ρ vs ds Q R dv w
  cases dv with
  | nil => exact w.elim
  | cons hd tl =>
    rename_i v vs d ds
    refine ⟨_, _, rfl, h1 B H0 O σ H ρ _ (.fz d) _ R hd (WR.imp (WR.bind w) fun ρ1 w1 O1 σ1 H1 e1 R1 => ?_)⟩
    exact h2 B H0 O1 σ1 H1 ρ1 _ _ Q R1 (tl.ev e1) (w1.imp fun ρ2 q O2 σ2 H2 e2 R2 => q O2 σ2 H2 (e1.trans e2) R2)
noncomputable def asT : D → Option (List D)
  | .tuple ds => some ds
  | _ => none
theorem asT_ok {O : Own} {H : Hp} {x : V} {d : D} {ds : List D} (h : DX O K H x d) (e : asT d = some ds) : ∃ a xs, x = .ref a ∧ SqTO O K H a xs ∧ DVs O K H xs ds := by
  cases d <;> cases e
  cases h with
  | tup h hs => exact ⟨_, _, rfl, h, hs⟩
noncomputable def gT (n : Nat) (f : FGs) : FG := fun pv ρ => (Res.ofO (rdD ρ pv)).bind fun d => (Res.ofO (asT d)).bind fun ds => if ds.length = n then f ds ρ else .bad
theorem go_tup {n : Nat} {t : TGs} {f : FGs} (h : GsO K E t f) : GO K E (gTup K n t) (gT n f) := by
  intro B H0 O σ H ρ v pv Q R p w
  obtain ⟨d, qd, w⟩ := w.ofO
  obtain ⟨ds, qs, w⟩ := w.ofO
  obtain ⟨a, xs, rfl, hq, hx⟩ := asT_ok (rd_ok R p qd) qs
  by_cases hn : ds.length = n
  · rw [if_pos hn] at w
    exact ⟨a, xs, rfl, hq.1, hx.length.trans hn, h B H0 O σ H ρ xs ds Q R hx w⟩
  · rw [if_neg hn] at w
    exact w.elim
inductive Fl where
  | nx (ρ : PEnv)
  | rt (rv : RV)
  | bk (ρ : PEnv)
  | ct (ρ : PEnv)
noncomputable abbrev FS := PEnv → Res Fl
noncomputable def FlOk (K : PySem.W.Frag) (B : Own) (H0 : Hp) (O : Own) (H : Hp) (D : Ends) : Fl → Prop
  | .nx ρ' => ∀ O' σ' H', Ev O H O' H' → Rl K B H0 O' σ' H' ρ' → D.nx σ' H'
  | .bk ρ' => ∀ O' σ' H', Ev O H O' H' → Rl K B H0 O' σ' H' ρ' → D.bk σ' H'
  | .ct ρ' => ∀ O' σ' H', Ev O H O' H' → Rl K B H0 O' σ' H' ρ' → D.ct σ' H'
  | .rt rv => Fin B K H0 D.rt rv
noncomputable def SO (K : PySem.W.Frag) (E : XK) (t : TS) (g : FS) : Prop :=
  ∀ (B : Own) (H0 : Hp) (O : Own) (σ : St) (H : Hp) (ρ : PEnv) (D : Ends), Rl K B H0 O σ H ρ → WR K E B H0 (FlOk K B H0 O H D) (g ρ) → t D σ H
theorem FlOk.ev {D : Ends} {fl : Fl} {O1 : Own} {H1 : Hp} (e : Ev O H O1 H1) (h : FlOk K B H0 O H D fl) : FlOk K B H0 O1 H1 D fl := by
  cases fl with
  | nx ρ' => exact fun O' σ' H' e' R' => h O' σ' H' (e.trans e') R'
  | bk ρ' => exact fun O' σ' H' e' R' => h O' σ' H' (e.trans e') R'
  | ct ρ' => exact fun O' σ' H' e' R' => h O' σ' H' (e.trans e') R'
  | rt rv => exact h
noncomputable def sNext : FS := fun ρ => .ok (.nx ρ)
noncomputable def sSeq (f g : FS) : FS := fun ρ => (f ρ).bind fun fl => match fl with
  | .nx ρ1 => g ρ1
  | fl => .ok fl
noncomputable def sDrop (f : FE) : FS := fun ρ => (f ρ).bind fun a => .ok (.nx a.2)
noncomputable def sAsg (f : FE) (g : FG) : FS := fun ρ => (f ρ).bind fun a => (g a.1 a.2).bind fun ρ1 => .ok (.nx ρ1)
noncomputable def sIf (c : FT) (f g : FS) : FS := fun ρ => (c ρ).bind fun a => if a.1 = true then f a.2 else g a.2
noncomputable def retV (ρ : PEnv) : PV → Option RV
  | .fz d => some (.fz d)
  | .ow ds => some (.ow ds)
  | .pl i => match ρ[i]? with
    | some (some (.fz d)) => some (.fz d)
    | some (some (.ow ds)) => some (.ow ds)
    | _ => none
noncomputable def sRet (f : FE) : FS := fun ρ => (f ρ).bind fun a => (Res.ofO (retV a.2 a.1)).bind fun rv => .ok (.rt rv)
theorem so_next : SO K E tNext sNext := fun B H0 O σ H ρ D R w => w O σ H .refl R
theorem so_seq {t u : TS} {f g : FS} (h1 : SO K E t f) (h2 : SO K E u g) : SO K E (tSeq t u) (sSeq f g) := by
  intro B H0 O σ H ρ D R w
  refine h1 B H0 O σ H ρ { D with nx := u D } R (WR.imp (WR.bind w) fun fl w1 => ?_)
  cases fl with
  | nx ρ1 => exact fun O1 σ1 H1 e1 R1 => h2 B H0 O1 σ1 H1 ρ1 D R1 (WR.imp w1 fun fl q => q.ev e1)
  | rt rv => exact w1
  | bk ρ1 => exact w1
  | ct ρ1 => exact w1
theorem so_drop {t : TE} {f : FE} (h : EO K E t f) : SO K E (tDrop t) (sDrop f) := by
  intro B H0 O σ H ρ D R w
  exact h B H0 O σ H ρ _ R (w.bind.imp fun a w1 O1 x H1 e1 R1 p1 => w1 O1 σ H1 e1 R1)
theorem so_asg {t : TE} {f : FE} {g : TG} {fg : FG} (h : EO K E t f) (hg : GO K E g fg) : SO K E (tAsg t g) (sAsg f fg) := by
  intro B H0 O σ H ρ D R w
  refine h B H0 O σ H ρ _ R (w.bind.imp fun a w1 O1 x H1 e1 R1 p1 => ?_)
  exact hg B H0 O1 σ H1 a.2 x a.1 _ R1 p1 (w1.bind.imp fun ρ1 w2 O2 σ2 H2 e2 R2 => w2 O2 σ2 H2 (e1.trans e2) R2)
theorem so_if {c : TT} {fc : FT} {t u : TS} {f g : FS} (hc : TTO K E c fc) (h1 : SO K E t f) (h2 : SO K E u g) : SO K E (tIfS c t u) (sIf fc f g) := by
  intro B H0 O σ H ρ D R w
  refine hc B H0 O σ H ρ _ R (w.bind.imp fun a w1 O1 H1 e1 R1 => ?_)
  obtain ⟨b, ρ1⟩ := a
  cases b with
  | true => exact h1 B H0 O1 σ H1 ρ1 D R1 (WR.imp w1 fun fl q => q.ev e1)
  | false => exact h2 B H0 O1 σ H1 ρ1 D R1 (WR.imp w1 fun fl q => q.ev e1)
theorem ret_ok {Q : VK} {pv : PV} {rv : RV} (R : Rl K B H0 O σ H ρ) (p : PvOk K H0 O σ H ρ v pv) (e : retV ρ pv = some rv) (w : Fin B K H0 Q rv) : Q v H := by
  have ow : ∀ {a : Addr} {vs : List V} {ds : List D}, O a → H0 a = none → H a = some (.lst vs) → DVs O K H vs ds → Fin B K H0 Q (.ow ds) → Q (.ref a) H := fun {a vs ds} h1 h2 h3 h4 w =>
    w a vs H R.same h2 h3 (h4.ev (Ev.sub fun b z => z.elim (R.bo b) fun e => by rw [e]; exact h1))
  have fz : ∀ {d : D}, DV O K H v d → Fin B K H0 Q (.fz d) → Q v H := fun {d} h w => w v H R.same (h.ev (Ev.sub R.bo))
  cases pv with
  | fz d => cases e; exact fz p w
  | ow ds =>
    cases e
    obtain ⟨a, vs, rfl, h1, h2, h3, h4, h5⟩ := p
    exact ow h1 h2 h3 h4 w
  | pl i =>
    have p' : σ[i]? = some (some v) := p
    unfold retV at e
    dsimp only at e
    cases q : ρ[i]? with
    | none => rw [q] at e; cases e
    | some o =>
      cases o with
      | none => rw [q] at e; cases e
      | some x =>
        obtain ⟨u, g1, g2⟩ := R.slot i x q
        rw [p'] at g1
        cases g1
        rw [q] at e
        cases x with
        | fz d => cases e; exact fz g2 w
        | ow ds =>
          cases e
          obtain ⟨a, vs, rfl, h1, h2, h3, h4⟩ := g2
          exact ow h1 h2 h3 h4 w
        | pl j => exact g2.elim
theorem so_ret {t : TE} {f : FE} (h : EO K E t f) : SO K E (tRet t) (sRet f) := by
  intro B H0 O σ H ρ D R w
  refine h B H0 O σ H ρ _ R (w.bind.imp fun a w1 O1 x H1 e1 R1 p1 => ?_)
  obtain ⟨rv, q, w1⟩ := w1.ofO
  exact ret_ok R1 p1 q w1
noncomputable def ItOk (K : PySem.W.Frag) (J : It) (O : Own) (H : Hp) (ds : List D) : Prop := ∀ O' H', Ev O H O' H' → NoneO O' H' →
  (∀ i, i < ds.length → J.go i H' ∧ ∀ x H'', J.yld i H' x H'' → Same H' H'' ∧ ∃ d, ds[i]? = some d ∧ DV O' K H'' x d) ∧ J.stop ds.length H'
noncomputable abbrev FI := PEnv → Res (List D × PEnv)
noncomputable def IO (K : PySem.W.Frag) (E : XK) (wi : TI) (fi : FI) : Prop :=
  ∀ (B : Own) (H0 : Hp) (O : Own) (σ : St) (H : Hp) (ρ : PEnv) (R' : It → Hp → Prop), Rl K B H0 O σ H ρ → WR K E B H0 (fun r => ∀ O' J H', Ev O H O' H' → Rl K B H0 O' σ H' r.2 → ItOk K J O' H' r.1 → R' J H') (fi ρ) → wi σ H R'
noncomputable def forP (gt : FG) (b : FS) : List D → FS
  | [], ρ => .ok (.nx ρ)
  | d :: r, ρ => (gt (.fz d) ρ).bind fun ρ1 => (b ρ1).bind fun fl => match fl with
    | .nx ρ2 => forP gt b r ρ2
    | .ct ρ2 => forP gt b r ρ2
    | .bk ρ2 => .ok (.nx ρ2)
    | .rt rv => .ok (.rt rv)
noncomputable def sFor (fi : FI) (gt : FG) (b : FS) : FS := fun ρ => (fi ρ).bind fun a => forP gt b a.1 a.2
theorem so_for {wi : TI} {fi : FI} {g : TG} {gt : FG} {tb : TS} {b : FS} (hi : IO K E wi fi) (hg : GO K E g gt) (hb : SO K E tb b) : SO K E (tFor wi g tb) (sFor fi gt b) := by
  intro B H0 O σ H ρ D R w
  refine hi B H0 O σ H ρ _ R (w.bind.imp fun a w1 O1 J H1 e1 R1 it => ?_)
  obtain ⟨ds, ρ1⟩ := a
  dsimp only at w1 it R1
  refine ⟨fun i m σ' H' => m = ds.length - i ∧ i ≤ ds.length ∧ ∃ O2 ρ2, Ev O1 H1 O2 H' ∧ Rl K B H0 O2 σ' H' ρ2 ∧ WR K E B H0 (FlOk K B H0 O H D) (forP gt b (ds.drop i) ρ2), ⟨_, rfl, Nat.zero_le _, O1, ρ1, .refl, R1, w1⟩, ?_⟩
  rintro i m σ2 H2 ⟨rfl, hi, O2, ρ2, e2, R2, w2⟩
  obtain ⟨go, stop⟩ := it O2 H2 e2 R2.od
  by_cases hlt : i < ds.length
  · obtain ⟨g1, g2⟩ := go i hlt
    refine .inr ⟨g1, fun σ' H' => i + 1 ≤ ds.length ∧ ∃ O2 ρ2, Ev O1 H1 O2 H' ∧ Rl K B H0 O2 σ' H' ρ2 ∧ WR K E B H0 (FlOk K B H0 O H D) (forP gt b (ds.drop (i + 1)) ρ2), fun σ' H' ⟨h1, h2⟩ => ⟨ds.length - (i + 1), by omega, rfl, h1, h2⟩, fun x H3 y => ?_⟩
    obtain ⟨s3, d, hd, dv⟩ := g2 x H3 y
    have ed : ds.drop i = d :: ds.drop (i + 1) := by
      obtain ⟨_, q⟩ := List.getElem?_eq_some_iff.mp hd
      rw [List.drop_eq_getElem_cons hlt, q]
    rw [ed] at w2
    have e3 : Ev O2 H2 O2 H3 := Ev.grow s3
    refine hg B H0 O2 σ2 H3 ρ2 x (.fz d) _ (R2.grow s3) dv (WR.imp (WR.bind w2) fun ρ3 w3 O4 σ4 H4 e4 R4 => ?_)
    have e4' : Ev O1 H1 O4 H4 := e2.trans (e3.trans e4)
    refine hb B H0 O4 σ4 H4 ρ3 _ R4 (WR.imp (WR.bind w3) fun fl w4 => ?_)
    cases fl with
    | nx ρ5 => exact fun O5 σ5 H5 e5 R5 => ⟨hlt, O5, ρ5, e4'.trans e5, R5, w4⟩
    | ct ρ5 => exact fun O5 σ5 H5 e5 R5 => ⟨hlt, O5, ρ5, e4'.trans e5, R5, w4⟩
    | bk ρ5 => exact fun O5 σ5 H5 e5 R5 => w4 O5 σ5 H5 (e1.trans (e4'.trans e5)) R5
    | rt rv => exact w4
  · have e : i = ds.length := by omega
    subst e
    rw [List.drop_eq_nil_of_le (Nat.le_refl _)] at w2
    exact .inl ⟨stop, w2 O2 σ2 H2 (e1.trans e2) R2⟩
noncomputable def asSeq : D → Option (List D)
  | .tuple ds => some ds
  | .list ds => some ds
  | _ => none
noncomputable def iSeqT (K : PySem.W.Frag) (tl : TE) : TI := fun σ H R => tl σ H fun x H1 => ∃ a, x = .ref a ∧ (((∃ xs, SqL K H1 a xs) ∧ R (Itl K a) H1) ∨ ((∃ xs, SqT K H1 a xs) ∧ R (Itt K a) H1))
theorem pi_seq {X : Cx} {tg l : Expr} {tl : TE} (hl : PE X l tl) : PI X tg l (iSeqT X.K tl) := by
  intro pins s σ H R I h
  refine thn (hl pins s σ H _ I h) fun v s1 ⟨x, H1, I1, r1, q1⟩ => ?_
  obtain ⟨a, e, q⟩ := q1
  subst e
  cases r1
  rcases q with ⟨⟨xs, hq⟩, q⟩ | ⟨⟨xs, hq⟩, q⟩
  · obtain ⟨its, rv, p, hz⟩ := I1.list hq
    refine PySem.wpAny_pyIter_list p.isList ?_
    refine ⟨s1.heap.objs.size, [s1.heap.objs.size], _, _, H1, rfl, I1.kept (t' := s1.toks) fun b o e => Heap.get?_push_of_some _ e, turn_list a _, ⟨_, Heap.get?_push_size _ rfl, rfl, rfl⟩, fun b hb => ?_, q⟩
    have e : b = s1.heap.objs.size := by simpa using hb
    subst e
    exact I1.fpOk (Nat.le_refl _) (I1.hok.fresh (Nat.le_refl _))
  · obtain ⟨its, rv, p, hz⟩ := I1.tuple hq
    refine PySem.wpAny_pyIter_tuple (show s1.heap.IsTuple a its.toArray from p) ?_
    refine ⟨s1.heap.objs.size, [s1.heap.objs.size], _, _, H1, rfl, I1.kept (t' := s1.toks) fun b o e => Heap.get?_push_of_some _ e, turn_tuple a _, ⟨_, Heap.get?_push_size _ rfl, rfl, rfl⟩, fun b hb => ?_, q⟩
    have e : b = s1.heap.objs.size := by simpa using hb
    subst e
    exact I1.fpOk (Nat.le_refl _) (I1.hok.fresh (Nat.le_refl _))
theorem it_list {a : Addr} {xs : List V} {ds : List D} (h : SqLO O K H a xs) (hd : DVs O K H xs ds) : ItOk K (Itl K a) O H ds := by
  intro O' H' e n
  have h' := h.ev e
  have hd' := hd.ev e
  refine ⟨fun i hi => ?_, ⟨xs, h'.1.sq, by rw [hd.length]; exact Nat.le_refl _⟩⟩
  obtain ⟨x, hx, _⟩ := hd'.get (List.getElem?_eq_getElem hi)
  refine ⟨⟨xs, x, h'.1.sq, hx⟩, ?_⟩
  rintro y H'' ⟨rfl, hy⟩
  obtain ⟨d, q1, q2⟩ := hd'.getV (hy xs h'.1.sq)
  exact ⟨Same.refl _, d, q1, q2⟩
theorem it_tup {a : Addr} {xs : List V} {ds : List D} (h : SqTO O K H a xs) (hd : DVs O K H xs ds) : ItOk K (Itt K a) O H ds := by
  intro O' H' e n
  have h' := h.ev e
  have hd' := hd.ev e
  refine ⟨fun i hi => ?_, ⟨xs, h'.1, by rw [hd.length]; exact Nat.le_refl _⟩⟩
  obtain ⟨x, hx, _⟩ := hd'.get (List.getElem?_eq_getElem hi)
  refine ⟨⟨xs, x, h'.1, hx⟩, ?_⟩
  rintro y H'' ⟨rfl, hy⟩
  obtain ⟨d, q1, q2⟩ := hd'.getV (hy xs h'.1)
  exact ⟨Same.refl _, d, q1, q2⟩
noncomputable def iSeq (fe : FE) : FI := fun ρ => (fe ρ).bind fun a => (Res.ofO (toD a.2 a.1)).bind fun b => (Res.ofO (asSeq b.1)).bind fun ds => .ok (ds, b.2)
theorem io_seq {tl : TE} {fe : FE} (h : EO K E tl fe) : IO K E (iSeqT K tl) (iSeq fe) := by
  intro B H0 O σ H ρ R' R w
  refine h B H0 O σ H ρ _ R (w.bind.imp fun a w1 O1 x H1 e1 R1 p1 => ?_)
  obtain ⟨⟨d, ρ2⟩, q, w1⟩ := w1.ofO
  obtain ⟨O2, e2, R2, dv⟩ := to_ok R1 p1 q
  obtain ⟨ds, qs, w1⟩ := w1.ofO
  dsimp only at qs
  cases dv with
  | tup h hs => cases qs; exact ⟨_, rfl, .inr ⟨⟨_, h.1⟩, w1 O2 _ H1 (e1.trans e2) R2 (it_tup h hs)⟩⟩
  | lst h hs => cases qs; exact ⟨_, rfl, .inl ⟨⟨_, h.1.sq⟩, w1 O2 _ H1 (e1.trans e2) R2 (it_list h hs)⟩⟩
  | _ => cases qs
noncomputable def intsFrom (lo : Int) (n : Nat) : List D := (List.range n).map fun (k : Nat) => .int (lo + (k : Int))
theorem it_range {lo : Int} {n : Nat} : ItOk K (Itr lo n) O H (intsFrom lo n) := by
  intro O' H' e nn
  have hl : (intsFrom lo n).length = n := by unfold intsFrom; rw [List.length_map, List.length_range]
  refine ⟨fun i hi => ?_, by show n ≤ _; rw [hl]; exact Nat.le_refl _⟩
  rw [hl] at hi
  refine ⟨hi, ?_⟩
  rintro x H'' ⟨rfl, rfl⟩
  exact ⟨Same.refl _, .int (lo + i), by unfold intsFrom; rw [List.getElem?_map, List.getElem?_range hi]; rfl, .int _⟩
noncomputable def small62 (i : Int) : Prop := -(2 ^ 62) ≤ i ∧ i < 2 ^ 62
instance (i : Int) : Decidable (small62 i) := by unfold small62; infer_instance
noncomputable def rng1 : List D → Option (List D)
  | [.int j] => if small62 j then some (intsFrom 0 j.toNat) else none
  | _ => none
noncomputable def iRng (f : List D → Option (List D)) (fa : FA) : FI := fun ρ => (fa ρ).bind fun a => (Res.ofO (rdDs a.2 a.1)).bind fun ds => (Res.ofO (f ds)).bind fun xs => .ok (xs, a.2)
theorem io_rng1 {ta : TA} {fa : FA} (h : AO K E ta fa) : IO K E (iRng1 ta) (iRng rng1 fa) := by
  intro B H0 O σ H ρ R' R w
  refine h B H0 O σ H ρ _ R (w.bind.imp fun a w1 O1 vs H1 e1 R1 p1 => ?_)
  obtain ⟨ds, q, w1⟩ := w1.ofO
  obtain ⟨xs, qx, w1⟩ := w1.ofO
  have px := rds_ok R1 p1 q
  unfold rng1 at qx
  split at qx
  · rename_i j
    split at qx
    · rename_i hj
      cases qx
      cases px with
      | cons h1 h2 =>
        cases h2
        cases h1
        exact ⟨j, rfl, hj.1, hj.2, w1 O1 _ H1 e1 R1 it_range⟩
    · cases qx
  · cases qx
end
end L3
namespace L3
open PySem L2
section
variable {K : PySem.W.Frag} {E : XK} {B O O' : Own} {H0 H H' : Hp} {σ : St} {ρ ρ' : PEnv} {v : V}
noncomputable def keepF : Option PV → Option PV
  | some (.fz d) => some (.fz d)
  | _ => none
noncomputable def forget (ρ : PEnv) : PEnv := ρ.map keepF
theorem forget_get {i : Nat} {x : PV} (h : (forget ρ)[i]? = some (some x)) : ∃ d, x = .fz d ∧ ρ[i]? = some (some (.fz d)) := by
  unfold forget at h
  rw [List.getElem?_map] at h
  cases q : ρ[i]? with
  | none => rw [q] at h; cases h
  | some o =>
    rw [q] at h
    have h' : keepF o = some x := Option.some.inj h
    unfold keepF at h'
    split at h'
    · cases h'; exact ⟨_, rfl, rfl⟩
    · cases h'
noncomputable def captL (ρ : PEnv) : List Nat → Option (List D × PEnv)
  | [] => some ([], ρ)
  | j :: r => match toD ρ (.pl j) with
    | some (d, ρ1) => (match captL ρ1 r with
      | some (c, ρ2) => some (d :: c, ρ2)
      | none => none)
    | none => none
theorem slot_some {i : Nat} {d : D} {ρ' : PEnv} (R : Rl K B H0 O σ H ρ) (h : toD ρ (.pl i) = some (d, ρ')) : ∃ v, σ[i]? = some (some v) := by
  have e' : toS ρ i ρ[i]? = some (d, ρ') := h
  cases q : ρ[i]? with
  | none => rw [q] at e'; cases e'
  | some o =>
    cases o with
    | none => rw [q] at e'; cases e'
    | some x => obtain ⟨v, g1, _⟩ := R.slot i x q; exact ⟨v, g1⟩
theorem captL_ok : ∀ {fv : List Nat} {ds : List D} {O : Own} {ρ ρ' : PEnv}, Rl K B H0 O σ H ρ → captL ρ fv = some (ds, ρ') → ∃ O' vs, Ev O H O' H ∧ Rl K B H0 O' σ H ρ' ∧ DVs O' K H vs ds ∧ fv.map (fun j => (σ[j]?).join) = vs.map some
  | [], _, O, _, _, R, e => by cases e; exact ⟨O, [], .refl, R, .nil, rfl⟩
  | j :: r, _, O, ρ, ρ', R, e => by
    unfold captL at e
    cases q : toD ρ (.pl j) with
    | none => rw [q] at e; cases e
    | some p =>
      obtain ⟨d, ρ1⟩ := p
      rw [q] at e
      dsimp only at e
      cases q2 : captL ρ1 r with
      | none => rw [q2] at e; cases e
      | some p2 =>
        obtain ⟨c, ρ2⟩ := p2
        rw [q2] at e
        cases e
        obtain ⟨v, hv⟩ := slot_some R q
        obtain ⟨O1, e1, R1, d1⟩ := to_ok (v := v) (pv := .pl j) R hv q
        obtain ⟨O2, vs, e2, R2, d2, h2⟩ := captL_ok R1 q2
        exact ⟨O2, v :: vs, e1.trans e2, R2, .cons (d1.ev e2) d2, by rw [List.map_cons, List.map_cons, h2, hv]; rfl⟩
noncomputable def compP (gt : FG) (ft : FT) (fe : FE) : List D → PEnv → List D → Res (List D)
  | [], _, acc => .ok acc
  | d :: r, ρ, acc => (gt (.fz d) ρ).bind fun ρ1 => (ft ρ1).bind fun b => if b.1 = true then (fe b.2).bind fun a => (Res.ofO (toD a.2 a.1)).bind fun x =>
      if acc.length < 1000000 then compP gt ft fe r (forget x.2) (acc ++ [x.1]) else .bad
    else compP gt ft fe r (forget b.2) acc
noncomputable def noEr {α : Type} : Res α → Res α
  | .er _ => .bad
  | r => r
noncomputable def pComp (n : Nat) (fv : List Nat) (fi : FI) (gt : FG) (ft : FT) (fe : FE) : FE := fun ρ => (fi ρ).bind fun a => (Res.ofO (captL a.2 fv)).bind fun c =>
  (noEr (compP gt ft fe a.1 (List.replicate n none ++ c.1.map fun d => some (.fz d)) [])).bind fun xs => .ok (.ow xs, c.2)
theorem own_map {n : Nat} {own : List Str} (h : own.length = n) : own.map (fun _ => (none : Option V)) = List.replicate n none := by
  subst h
  induction own with
  | nil => rfl
  | cons x r ih => rw [List.map_cons, ih, List.length_cons, List.replicate_succ]
theorem noEr_ok {α : Type} {r : Res α} {P : α → Prop} (h : WR K E B H0 P (noEr r)) : ∃ a, r = .ok a ∧ P a := by
  cases r with
  | ok a => exact ⟨a, rfl, h⟩
  | er x => exact h.elim
  | bad => exact h.elim
noncomputable def ItOkS (K : PySem.W.Frag) (J : It) (O : Own) (H : Hp) (ds : List D) : Prop := ∀ O' H', Ev O H O' H' → Same H H' → NoneO O' H' →
  (∀ i, i < ds.length → J.go i H' ∧ ∀ x H'', J.yld i H' x H'' → Same H' H'' ∧ ∃ d, ds[i]? = some d ∧ DV O' K H'' x d) ∧ J.stop ds.length H'
noncomputable def IOS (K : PySem.W.Frag) (E : XK) (wi : TI) (fi : FI) : Prop :=
  ∀ (B : Own) (H0 : Hp) (O : Own) (σ : St) (H : Hp) (ρ : PEnv) (R' : It → Hp → Prop), Rl K B H0 O σ H ρ → WR K E B H0 (fun r => ∀ O' J H', Ev O H O' H' → Rl K B H0 O' σ H' r.2 → ItOkS K J O' H' r.1 → R' J H') (fi ρ) → wi σ H R'
theorem IO.s {wi : TI} {fi : FI} (h : IO K E wi fi) : IOS K E wi fi := fun B H0 O σ H ρ R' R w => h B H0 O σ H ρ R' R (w.imp fun r q O' J H' e R it => q O' J H' e R fun O2 H2 e2 _ n => it O2 H2 e2 n)
theorem eo_compS {own : List Str} {fv : List (Str × Nat)} {wi : TI} {g : TG} {tc : TT} {te : TE} {fi : FI} {gt : FG} {ft : FT} {fe : FE} {n : Nat} {fj : List Nat} (hn : own.length = n) (hf : fv.map (·.2) = fj)
    (hi : IOS K E wi fi) (hg : GO K E0 g gt) (ht : TTO K E0 tc ft) (he : EO K E0 te fe) : EO K E (tComp own fv wi g tc te) (pComp n fj fi gt ft fe) := by
  intro B H0 O σ H ρ Q R w
  refine hi B H0 O σ H ρ _ R (w.bind.imp fun a w1 O1 J H1 e1 R1 it => ?_)
  obtain ⟨ds, ρ1⟩ := a
  obtain ⟨⟨cs, ρ2⟩, qc, w1⟩ := w1.ofO
  dsimp only at qc it
  obtain ⟨O2, vs, e2, R2, dvs, hvs⟩ := captL_ok R1 qc
  obtain ⟨xs, qx, w1⟩ := noEr_ok (WR.bind w1)
  intro Dd hDd
  -- the heap with the new list; it is owned
  have hB : ∀ {H' : Hp}, Same H1 H' → H' Dd ≠ none → ∀ a, addO O2 Dd a → H' a ≠ none := fun {H'} s nd a h z => h.elim (fun q => R2.od a (s.free z) q) fun e => nd (by rw [← e]; exact z)
  refine ⟨fun i m σ' H' => m = ds.length - i ∧ i ≤ ds.length ∧ ∃ (acc : List D) (ys : List V) (ρc : PEnv), Same H1 H' ∧ H' Dd = some (.lst ys) ∧ DVs (addO O2 Dd) K H' ys acc ∧ σ'.length = ρc.length ∧ (∀ (j : Nat) (x : PV), ρc[j]? = some (some x) → ∃ d u, x = PV.fz d ∧ σ'[j]? = some (some u) ∧ DV (addO O2 Dd) K H' u d) ∧ compP gt ft fe (ds.drop i) ρc acc = .ok xs,
    ⟨_, rfl, Nat.zero_le _, [], [], _, same_upd hDd _, upd_same, .nil, ?_, fun j x hx => ?_, qx⟩, ?_⟩
  · unfold compSt
    rw [List.length_append, List.length_append, List.length_map, List.length_map, List.length_replicate, List.length_map, hn, ← dvs.length]
    have := congrArg List.length hvs
    rw [List.length_map, List.length_map, ← hf, List.length_map] at this
    omega
  · have hm : fv.map (fun p => (σ[p.2]?).join) = vs.map some := by rw [← hvs, ← hf, List.map_map]; rfl
    unfold compSt
    rw [own_map hn, hm]
    by_cases hj : j < n
    · rw [List.getElem?_append_left (by rw [List.length_replicate]; exact hj), List.getElem?_replicate, if_pos hj] at hx
      cases hx
    · rw [List.getElem?_append_right (by rw [List.length_replicate]; omega), List.length_replicate, List.getElem?_map] at hx ⊢
      cases qd : cs[j - n]? with
      | none => rw [qd] at hx; cases hx
      | some d =>
        rw [qd] at hx
        cases hx
        obtain ⟨u, hu, du⟩ := dvs.get qd
        exact ⟨d, u, rfl, by rw [hu]; rfl, du.ev (Ev.add (same_upd hDd _) hDd)⟩
  · rintro i m σ' H' ⟨rfl, hi, acc, ys, ρc, s, hD, dys, hl, hsl, qP⟩
    have nD : H' Dd ≠ none := by rw [hD]; simp
    have no' : NoneO (addO O2 Dd) H' := fun a z h => hB s nD a h z
    have ev1 : Ev O1 H1 (addO O2 Dd) H' := e2.trans (Ev.add s hDd)
    obtain ⟨go, stop⟩ := it (addO O2 Dd) H' ev1 s no'
    by_cases hlt : i < ds.length
    · obtain ⟨g1, g2⟩ := go i hlt
      refine .inr ⟨g1, fun σ5 H5 => i + 1 ≤ ds.length ∧ ∃ (acc : List D) (ys : List V) (ρc : PEnv), Same H1 H5 ∧ H5 Dd = some (.lst ys) ∧ DVs (addO O2 Dd) K H5 ys acc ∧ σ5.length = ρc.length ∧ (∀ (j : Nat) (x : PV), ρc[j]? = some (some x) → ∃ d u, x = PV.fz d ∧ σ5[j]? = some (some u) ∧ DV (addO O2 Dd) K H5 u d) ∧ compP gt ft fe (ds.drop (i + 1)) ρc acc = .ok xs,
        fun σ5 H5 ⟨h1, h2⟩ => ⟨ds.length - (i + 1), by omega, rfl, h1, h2⟩, fun x H3 y => ?_⟩
      obtain ⟨s3, d, hd, dv⟩ := g2 x H3 y
      have ed : ds.drop i = d :: ds.drop (i + 1) := by
        obtain ⟨_, q⟩ := List.getElem?_eq_some_iff.mp hd
        rw [List.drop_eq_getElem_cons hlt, q]
      rw [ed] at qP
      have hD3 : H3 Dd = some (.lst ys) := s3 _ _ hD
      have nD3 : H3 Dd ≠ none := by rw [hD3]; simp
      have sv : Same H1 H3 := s.trans s3
      -- the block's own state
      have RC : Rl K (addO O2 Dd) H3 (addO O2 Dd) σ' H3 ρc := ⟨Same.refl _, fun _ h => h, hB sv nD3, fun a z h => hB sv nD3 a h z, hl, fun j x hx => by
          obtain ⟨d, u, rfl, h1, h2⟩ := hsl j x hx
          exact ⟨u, h1, h2.ev (Ev.grow s3)⟩, fun j k xs ys w hj => by obtain ⟨d, u, e, _⟩ := hsl j _ hj; cases e⟩
      unfold compP at qP
      have back : ∀ {O5 : Own} {σ5 : St} {H5 : Hp} {ρ5 : PEnv} {H6 : Hp}, Rl K (addO O2 Dd) H3 O5 σ5 H5 ρ5 → (∀ b o, b ≠ Dd → H5 b = some o → H6 b = some o) → σ5.length = (forget ρ5).length ∧ ∀ (j : Nat) (x : PV), (forget ρ5)[j]? = some (some x) → ∃ d u, x = PV.fz d ∧ σ5[j]? = some (some u) ∧ DV (addO O2 Dd) K H6 u d := fun {O5 σ5 H5 ρ5 H6} R5 k => by
        refine ⟨by unfold forget; rw [List.length_map]; exact R5.len, fun j x hx => ?_⟩
        obtain ⟨d, rfl, hxx⟩ := forget_get hx
        obtain ⟨u, h1, h2⟩ := R5.slot j _ hxx
        refine ⟨d, u, rfl, h1, DV.ev (O := addO O2 Dd) (H := H5) (fun b o h n => ⟨k b o (fun e => n (.inr e)) h, n⟩) (DV.ev (Ev.sub R5.bo) h2)⟩
      refine hg _ _ _ σ' H3 ρc x (.fz d) _ RC dv ?_
      cases qg : gt (.fz d) ρc with
      | er z => rw [qg] at qP; cases qP
      | bad => rw [qg] at qP; cases qP
      | ok ρ3 =>
        rw [qg, Res.bind_ok] at qP
        intro O4 σ4 H4 e4 R4
        refine ht _ _ _ σ4 H4 ρ3 _ R4 ?_
        cases qt : ft ρ3 with
        | er z => rw [qt] at qP; cases qP
        | bad => rw [qt] at qP; cases qP
        | ok b =>
          obtain ⟨b, ρ4⟩ := b
          rw [qt, Res.bind_ok] at qP
          intro O5 H5 e5 R5
          cases b with
          | false =>
            rw [if_neg Bool.false_ne_true] at qP ⊢
            obtain ⟨l5, k5⟩ := back R5 (H6 := H5) fun b o _ h => h
            refine ⟨hlt, acc, ys, forget ρ4, sv.trans R5.same, R5.same _ _ hD3, ?_, l5, k5, qP⟩
            exact dys.ev (Ev.grow (s3.trans R5.same))
          | true =>
            rw [if_pos rfl] at qP ⊢
            refine he _ _ _ σ4 H5 ρ4 _ R5 ?_
            cases qe : fe ρ4 with
            | er z => rw [qe] at qP; cases qP
            | bad => rw [qe] at qP; cases qP
            | ok r =>
              rw [qe, Res.bind_ok] at qP
              intro O6 yv H6 e6 R6 p6
              cases q7 : toD r.2 r.1 with
              | none => rw [q7] at qP; cases qP
              | some xr =>
                obtain ⟨xd, ρ7⟩ := xr
                rw [q7] at qP
                obtain ⟨O7, e7, R7, dv7⟩ := to_ok R6 p6 q7
                have hD7 : H6 Dd = some (.lst ys) := R7.same _ _ hD3
                have qP' : (if acc.length < 1000000 then compP gt ft fe (ds.drop (i + 1)) (forget ρ7) (acc ++ [xd]) else .bad) = .ok xs := qP
                by_cases hl6 : acc.length < 1000000
                · rw [if_pos hl6] at qP'
                  have up : ∀ b o, b ≠ Dd → H6 b = some o → upd H6 Dd (.lst (ys ++ [yv])) b = some o := fun b o hb h => by rw [upd_ne hb]; exact h
                  have evD : Ev (addO O2 Dd) H6 (addO O2 Dd) (upd H6 Dd (.lst (ys ++ [yv]))) := fun b o h n => ⟨up b o (fun e => n (.inr e)) h, n⟩
                  have dys6 : DVs (addO O2 Dd) K H6 ys acc := dys.ev (Ev.grow (s3.trans R7.same))
                  obtain ⟨l5, k5⟩ := back R7 up
                  refine ⟨ys, hD7, lt1e6 (by rw [dys.length]; exact hl6), hlt, acc ++ [xd], ys ++ [yv], forget ρ7, fun b o h => ?_, upd_same, ?_, l5, k5, qP'⟩
                  · rw [upd_ne (ne_of_none h hDd)]
                    exact R7.same _ _ (sv _ _ h)
                  · exact (dys6.append (.cons (DV.ev (Ev.sub R7.bo) dv7) .nil)).ev evD
                · rw [if_neg hl6] at qP'
                  cases qP'
    · have e : i = ds.length := by omega
      subst e
      rw [List.drop_eq_nil_of_le (Nat.le_refl _)] at qP
      have qP : Res.ok acc = .ok xs := qP
      cases qP
      refine .inl ⟨stop, ?_⟩
      refine w1 (addO O2 Dd) (.ref Dd) H' (e1.trans ev1) (R2.add s hDd nD) ⟨Dd, ys, rfl, .inr rfl, R2.none0 hDd, hD, dys, fun k es hk z => ?_⟩
      obtain ⟨u, h1, b, us, e2, g1, g2, g3, g4⟩ := R2.slot k _ hk
      rw [z] at h1
      cases h1
      cases e2
      rw [hDd] at g3
      cases g3
theorem eo_comp {own : List Str} {fv : List (Str × Nat)} {wi : TI} {g : TG} {tc : TT} {te : TE} {fi : FI} {gt : FG} {ft : FT} {fe : FE} {n : Nat} {fj : List Nat} (hn : own.length = n) (hf : fv.map (·.2) = fj)
    (hi : IO K E wi fi) (hg : GO K E0 g gt) (ht : TTO K E0 tc ft) (he : EO K E0 te fe) : EO K E (tComp own fv wi g tc te) (pComp n fj fi gt ft fe) := eo_compS hn hf hi.s hg ht he
noncomputable def iKeepS (ρ : PEnv) : Option (Option PV) → Res (List D × PEnv)
  | some (some (.ow ds)) => .ok (ds, ρ)
  | _ => .bad
noncomputable def iKeep (i : Nat) : FI := fun ρ => iKeepS ρ ρ[i]?
theorem ios_keep {i : Nat} : IOS K E (iSeqT K (tVar i)) (iKeep i) := by
  intro B H0 O σ H ρ R' R w
  unfold iKeep at w
  cases q : ρ[i]? with
  | none => rw [q] at w; exact w.elim
  | some o =>
    cases o with
    | none => rw [q] at w; exact w.elim
    | some x =>
      cases x with
      | fz d => rw [q] at w; exact w.elim
      | pl j => rw [q] at w; exact w.elim
      | ow ds =>
        rw [q] at w
        obtain ⟨v, h1, a, vs, rfl, g1, g2, g3, g4⟩ := R.slot i _ q
        refine ⟨_, h1, a, rfl, .inl ⟨⟨vs, SqL.of g3⟩, w O _ H .refl R fun O' H' e s n => ?_⟩⟩
        have k : H' a = some (.lst vs) := s _ _ g3
        have d' := g4.ev e
        refine ⟨fun j hj => ?_, ⟨vs, SqL.of k, by rw [d'.length]; exact Nat.le_refl _⟩⟩
        obtain ⟨x, hx, _⟩ := d'.get (List.getElem?_eq_getElem hj)
        refine ⟨⟨vs, x, SqL.of k, hx⟩, ?_⟩
        rintro y H'' ⟨rfl, hy⟩
        obtain ⟨d, q1, q2⟩ := d'.getV (hy vs (SqL.of k))
        exact ⟨Same.refl _, d, q1, q2⟩
noncomputable def pCal (F : FN) (n : Nat) (fa : FA) : FE := fun ρ => (fa ρ).bind fun a => (Res.ofO (toDs a.2 a.1)).bind fun b => if b.1.length = n then (noEr (F b.1)).bind fun rv => .ok (rv.pv, b.2) else .bad
theorem eo_cal {F : FN} {n : Nat} {ta : TA} {fa : FA} (ha : AO K E ta fa) : EO K E (tCall (spP K n F) [] E0 ta) (pCal F n fa) := by
  intro B H0 O σ H ρ Q R w
  refine ha B H0 O σ H ρ _ R (w.bind.imp fun a w1 O1 vs H1 e1 R1 p1 => ?_)
  obtain ⟨⟨ds, ρ2⟩, q, w2⟩ := w1.ofO
  obtain ⟨O2, e2, R2, dv⟩ := tos_ok R1 p1 q
  dsimp only at w2
  by_cases hn : ds.length = n
  · rw [if_pos hn] at w2
    obtain ⟨rv, qF, w2⟩ := noEr_ok (WR.bind w2)
    rw [List.append_nil]
    refine ⟨dv.length.trans hn, O2, ds, fun a z hz => R2.od a hz z, dv, ?_⟩
    rw [qF]
    exact fin_of R2 fun O3 v H3 e3 R3 p3 => w2 O3 v H3 (e1.trans (e2.trans e3)) R3 p3
  · rw [if_neg hn] at w2
    exact w2.elim
end
noncomputable def runF (N : Nat) (g : FS) : FN := fun ds => (g (ds.map (fun d => some (.fz d)) ++ List.replicate (N - ds.length) none)).bind fun fl => match fl with
  | .rt rv => .ok rv
  | .nx _ => .ok (.fz .none)
  | _ => .bad
theorem rl_start {K : PySem.W.Frag} {B : Own} {H : Hp} {N : List Str} {vs : List V} {ds : List D} (hb : ∀ a, B a → H a ≠ none) (dv : DVs B K H vs ds) : Rl K B H B (L2.start N vs) H (ds.map (fun d => some (.fz d)) ++ List.replicate (N.length - ds.length) none) := by
  have hl := dv.length
  refine ⟨Same.refl _, fun _ h => h, hb, fun a z h => hb a h z, ?_, fun i x hx => ?_, fun i j xs ys w hi => ?_⟩
  · unfold L2.start
    rw [List.length_append, List.length_append, List.length_map, List.length_map, List.length_replicate, List.length_replicate, hl]
  all_goals
    have key : ∀ {i : Nat} {x : PV}, (ds.map (fun d => some (PV.fz d)) ++ List.replicate (N.length - ds.length) none)[i]? = some (some x) → ∃ d, x = .fz d ∧ ds[i]? = some d := fun {i x} h => by
      by_cases hi : i < ds.length
      · rw [List.getElem?_append_left (by rw [List.length_map]; exact hi), List.getElem?_map] at h
        cases q : ds[i]? with
        | none => rw [q] at h; cases h
        | some d => rw [q] at h; cases h; exact ⟨d, rfl, rfl⟩
      · rw [List.getElem?_append_right (by rw [List.length_map]; omega), List.getElem?_replicate] at h
        split at h <;> cases h
  · obtain ⟨d, rfl, hd⟩ := key hx
    obtain ⟨v, hv, h2⟩ := dv.get hd
    refine ⟨v, ?_, h2⟩
    have hi : i < vs.length := (List.getElem?_eq_some_iff.mp hv).1
    unfold L2.start
    rw [List.getElem?_append_left (by rw [List.length_map]; exact hi), List.getElem?_map, hv]
    rfl
  · obtain ⟨d, e, _⟩ := key hi
    cases e
theorem okP {P : Program} {w : World} {K : PySem.W.Frag} {mg : Str → Option Value} {base : Heap} {x qual : Str} {st : Stmt} {f : Addr} {fd : FuncData} {N ps : List Str} {k n : Nat} {g : FS} (F : Fun K x qual st f fd) (S : FnScope N ps (defScope st)) (hn : ps.length = n)
    (hbody : ∀ (cdv : Value) (A : Around) (outer : List Env) (s : Shared) (H : Hp) (E : XK), Room k (A.deeper (PyProof.Rows.envOfC qual (defScope st) s.heap.objs.size f cdv)) →
      ∃ t, PSs (cxOf CX0 P w K mg base N qual (defScope st) f cdv A outer s H E).nox (defBody st) t ∧ SO K E t g) : FnOk P w K mg base CX0 (k + 1) f fd ps (spP K n (runF N.length g)) := by
  refine F.ok S (fun vs H Q E h => h.1.trans hn.symm) (fun cdv A outer s H vs Q E hr h => ?_)
  obtain ⟨t, ht, hs⟩ := hbody cdv A outer s H E hr
  obtain ⟨hl, B, ds, hb, dv, h⟩ := h
  refine ⟨t, ht, hs B H B _ H _ _ (rl_start hb dv) (WR.imp (WR.bind h) fun fl q => ?_)⟩
  cases fl with
  | rt rv => exact q
  | nx ρ => exact fun O' σ' H' e R => q .non H' R.same .non
  | bk ρ => exact q.elim
  | ct ρ => exact q.elim
end L3
namespace L3
open PySem PySem.Spec PyProof.Rows L2
theorem OpR.or {X : Cx} {f : Value → Value → Sem Value} {r r' : R2} (h : OpR X f r) (h' : OpR X f r') : OpR X f (fun x y H Q => r x y H Q ∨ r' x y H Q) := by
  intro pins s σ H x y v u Q I rx ry q
  rcases q with q | q
  · exact h pins s σ H x y v u Q I rx ry q
  · exact h' pins s σ H x y v u Q I rx ry q
theorem lstX {X : Cx} {pins : List (Addr × Obj)} {σ : L2.St} {H : Hp} {s : Shared} {l : Addr} {xs : List V} (I : Inv X pins σ H s) (h : SqLX X.K H l xs) : xs.length ≤ sizeLine ∧ ∃ (its : List Value) (n : Nat), Vals xs its ∧ xs.length = its.length ∧ s.heap.get? l = some { cls := .type "list", data := .seq its.toArray n } := by
  rcases h with (h | ⟨o, h⟩) | ⟨its, n, h1, h2, h3⟩
  · exact I.lstM h
  · obtain ⟨_, z, its, n, r, e⟩ := I.hok l _ h
    exact ⟨z, its, n, r, r.length, e⟩
  · exact ⟨h2, its, n, h3, h3.length, I.kIn _ _ h1⟩
noncomputable def rCatX (K : PySem.W.Frag) : R2 := fun x y H Q => ∃ l b xs zs, x = .ref l ∧ y = .ref b ∧ SqLX K H l xs ∧ SqLX K H b zs ∧ xs.length + zs.length ≤ sizeLine ∧ ∀ p, H p = none → Q (.ref p) (upd H p (.lst (xs ++ zs)))
theorem op_catX {X : Cx} : OpR X (binaryOp .Add) (rCatX X.K) := by
  intro pins s σ H x y v u Q I rx ry h
  obtain ⟨l, b, xs, zs, rfl, rfl, hH, hB, hz, q⟩ := h
  cases rx
  cases ry
  obtain ⟨z, its, n, r, hl, e⟩ := lstX I hH
  obtain ⟨z2, its2, n2, r2, hl2, e2⟩ := lstX I hB
  refine PySem.P.add_list e e2 ?_ (by rw [List.size_toArray, List.size_toArray]; omega)
  have ea : its.toArray ++ its2.toArray = (its ++ its2).toArray := by simp
  rw [ea]
  exact ⟨.ref _, _, I.lnew (t' := s.toks) (r.append r2) (by rw [List.length_append]; omega), rfl, q _ I.fresh⟩
noncomputable def rRepX (K : PySem.W.Frag) : R2 := fun x y H Q => ∃ l k xs, x = .ref l ∧ y = .int k ∧ SqLX K H l xs ∧ -(2 ^ 63) ≤ k ∧ k < 2 ^ 63 ∧ xs.length * k.toNat ≤ sizeLine ∧
  ∀ p, H p = none → Q (.ref p) (upd H p (.lst (List.replicate k.toNat xs).flatten))
theorem op_repX {X : Cx} : OpR X (binaryOp .Mult) (rRepX X.K) := by
  intro pins s σ H x y v u Q I rx ry h
  obtain ⟨l, k, xs, rfl, rfl, hH, h1, h2, hz, q⟩ := h
  cases rx
  obtain ⟨t, rfl⟩ := ry
  obtain ⟨z, its, n, r, hl, e⟩ := lstX I hH
  have hlen : its.toArray.size * k.toNat ≤ sizeLine := by rw [List.size_toArray, ← hl]; exact hz
  have hcap : ¬ its.toArray.size * k.toNat > (2 ^ 63 - 1) / 8 := by
    have : (sizeLine : Nat) ≤ (2 ^ 63 - 1) / 8 := by decide
    omega
  have hfit : ¬ (!Builtin.List.listFitsIndex k) = true := by
    rw [fitsIndex_both h1 h2]
    exact Bool.false_ne_true
  have hlong : ¬ Builtin.List.listTooLong (its.toArray.size * k.toNat) = true := by
    rw [notLongL hlen]
    exact Bool.false_ne_true
  have hnew : List.foldl (fun x1 x2 => x1 ++ x2) #[] (List.replicate (if its.toArray.isEmpty = true then 0 else k.toNat) its.toArray) = (List.replicate k.toNat its).flatten.toArray := by
    have f0 : ∀ m : Nat, List.foldl (fun x1 x2 => x1 ++ x2) #[] (List.replicate m its.toArray) = (List.replicate m its).flatten.toArray := fun m => by
      have := foldl_rep its m []
      rw [List.nil_append] at this
      exact this
    rw [f0]
    cases its with
    | nil => simp
    | cons a r' => rw [if_neg (by simp)]
  refine wpAny_binaryOp_repeat_ref (T := "list") (U := "int") (by decide) ⟨_, e, rfl⟩ (fun s' => typeIs_int s' k t) noFill_list_mul F.fills_int_mul F.slot_int_rmul repeat_list F.slot_int_index.lookup
    (call_meets F.slot_int_rmul (typeIs_int s k t) F.entry_int_rmul (F.args_int_rmul_2 _ _) (int___rmul___int_list k t l its.toArray n)
      ⟨e, rfl, ⟨_, e, rfl⟩, call_meets F.slot_list_mul ⟨_, e, rfl⟩ F.entry_list_mul (F.args_list_mul_2 _ _) (AutoListH.list___mul___list_int_3 l its.toArray n k t hfit hcap hlong) ⟨e, ?_⟩⟩)
  rw [hnew]
  exact ⟨.ref _, _, I.lnew (t' := s.toks) (r.rep k.toNat) (by rw [len_rep, Nat.mul_comm]; exact hz), rfl, q _ I.fresh⟩
section
variable {K : PySem.W.Frag}
noncomputable def fI (g : Int → Int → Int) : D → D → Option RV
  | .int i, .int j => some (.fz (.int (g i j)))
  | _, _ => none
noncomputable def fB (g : Int → Int → Bool) : D → D → Option RV
  | .int i, .int j => some (.fz (.bool (g i j)))
  | _, _ => none
noncomputable def fIc (C : Int → Int → Bool) (g : Int → Int → Int) : D → D → Option RV
  | .int i, .int j => if C i j = true then some (.fz (.int (g i j))) else none
  | _, _ => none
theorem fI_cases {g : Int → Int → Int} {dx dy : D} {rv : RV} (h : fI g dx dy = some rv) : ∃ i j, dx = .int i ∧ dy = .int j ∧ rv = .fz (.int (g i j)) := by
  unfold fI at h
  split at h
  · cases h; exact ⟨_, _, rfl, rfl, rfl⟩
  · cases h
theorem opp_i {g : Int → Int → Int} : OpP K (rI0 fun i j => .int (g i j)) (fI g) := by
  intro O H x y dx dy rv Q n hx hy e q
  obtain ⟨i, j, rfl, rfl, rfl⟩ := fI_cases e
  cases hx; cases hy
  exact ⟨i, j, rfl, rfl, q.at (.int _)⟩
theorem opp_b {g : Int → Int → Bool} : OpP K (rI0 fun i j => .bl (g i j)) (fB g) := by
  intro O H x y dx dy rv Q n hx hy e q
  unfold fB at e
  split at e
  · cases e
    cases hx; cases hy
    exact ⟨_, _, rfl, rfl, q.at (.bl _)⟩
  · cases e
theorem opp_ic {C : Int → Int → Bool} {C' : Int → Int → Prop} {g : Int → Int → Int} (hC : ∀ i j, C i j = true → C' i j) : OpP K (rI C' fun i j => .int (g i j)) (fIc C g) := by
  intro O H x y dx dy rv Q n hx hy e q
  unfold fIc at e
  split at e
  · split at e
    · rename_i hc
      cases e
      cases hx; cases hy
      exact ⟨_, _, rfl, rfl, hC _ _ hc, q.at (.int _)⟩
    · cases e
  · cases e
theorem DXl {O : Own} {H : Hp} {x : V} {ds : List D} (h : DX O K H x (.list ds)) : ∃ a xs, x = .ref a ∧ SqLX K H a xs ∧ DVs O K H xs ds := h
theorem DXt {O : Own} {H : Hp} {x : V} {ds : List D} (h : DX O K H x (.tuple ds)) : ∃ a xs, x = .ref a ∧ SqTO O K H a xs ∧ DVs O K H xs ds := asT_ok h rfl
noncomputable def rAddA (K : PySem.W.Frag) : R2 := fun x y H Q => rI0 (fun i j => .int (i + j)) x y H Q ∨ rCatX K x y H Q ∨ rCatT K x y H Q
theorem op_addA {X : Cx} : OpR X (binaryOp .Add) (rAddA X.K) := OpR.or op_add (OpR.or op_catX op_catT)
noncomputable def addD : D → D → Option RV
  | .int i, .int j => some (.fz (.int (i + j)))
  | .list xs, .list ys => if xs.length + ys.length ≤ 1000000 then some (.ow (xs ++ ys)) else none
  | .tuple xs, .tuple ys => if xs ≠ [] ∧ xs.length + ys.length ≤ 1000000 then some (.fz (.tuple (xs ++ ys))) else none
  | _, _ => none
theorem le1e6 {n : Nat} (h : n ≤ 1000000) : n ≤ sizeLine := Nat.le_trans h (by decide)
theorem DVs.ne {O : Own} {H : Hp} {vs : List V} {ds : List D} (h : DVs O K H vs ds) : vs = [] ↔ ds = [] := by cases h <;> simp
theorem opp_add : OpP K (rAddA K) addD := by
  intro O H x y dx dy rv Q n hx hy e q
  unfold addD at e
  split at e
  · cases e
    cases hx; cases hy
    exact .inl ⟨_, _, rfl, rfl, q.at (.int _)⟩
  · split at e
    · rename_i hl
      cases e
      obtain ⟨a, xs, rfl, h1, h2⟩ := DXl hx
      obtain ⟨b, ys, rfl, g1, g2⟩ := DXl hy
      exact .inr (.inl ⟨a, b, xs, ys, rfl, rfl, h1, g1, le1e6 (by rw [h2.length, g2.length]; exact hl), Fin.new (h2.append g2) q⟩)
    · cases e
  · split at e
    · rename_i hl
      cases e
      obtain ⟨a, xs, rfl, h1, h2⟩ := DXt hx
      obtain ⟨b, ys, rfl, g1, g2⟩ := DXt hy
      refine .inr (.inr ⟨a, b, xs, ys, rfl, rfl, h1.1, g1.1, fun z => hl.1 (h2.ne.mp z), le1e6 (by rw [h2.length, g2.length]; exact hl.2), fun z => ?_, fun _ => Fin.newT (h2.append g2) n q⟩)
      have z' := g2.ne.mp z
      subst z'
      rw [List.append_nil] at q
      exact q.at (.tup h1 h2)
    · cases e
  · cases e
noncomputable def rMulA (K : PySem.W.Frag) : R2 := fun x y H Q => rI CMul (fun i j => .int (i * j)) x y H Q ∨ rRepX K x y H Q
theorem op_mulA {X : Cx} : OpR X (binaryOp .Mult) (rMulA X.K) := OpR.or op_mul op_repX
noncomputable def small64 (i : Int) : Bool := decide (-(2 ^ 64) < i ∧ i < 2 ^ 64)
theorem small64_ok {i : Int} (h : small64 i = true) : -(2 ^ 64) < i ∧ i < 2 ^ 64 := of_decide_eq_true h
noncomputable def mulD : D → D → Option RV
  | .int i, .int j => if (small64 i || small64 j) = true then some (.fz (.int (i * j))) else none
  | .list xs, .int k => if xs.length * k.toNat ≤ 1000000 ∧ -(2 ^ 63) ≤ k ∧ k < 2 ^ 63 then some (.ow (List.replicate k.toNat xs).flatten) else none
  | _, _ => none
theorem opp_mul : OpP K (rMulA K) mulD := by
  intro O H x y dx dy rv Q n hx hy e q
  unfold mulD at e
  split at e
  · split at e
    · rename_i hc
      cases e
      cases hx; cases hy
      refine .inl ⟨_, _, rfl, rfl, ?_, q.at (.int _)⟩
      rcases (Bool.or_eq_true _ _).mp hc with z | z
      · exact .inl (small64_ok z)
      · exact .inr (small64_ok z)
    · cases e
  · split at e
    · rename_i hc
      cases e
      cases hy
      obtain ⟨a, xs, rfl, h1, h2⟩ := DXl hx
      exact .inr ⟨a, _, xs, rfl, rfl, h1, hc.2.1, hc.2.2, le1e6 (by rw [h2.length]; exact hc.1), Fin.new (h2.flat _) q⟩
    · cases e
  · cases e
noncomputable def subD := fI fun i j => i - j
theorem opp_sub : OpP K (rI0 fun i j => .int (i - j)) subD := opp_i
noncomputable def posC (_ j : Int) : Bool := decide (0 < j)
noncomputable def modD := fIc posC fun i j => i % j
theorem opp_mod : OpP K (rI (fun _ j => 0 < j) fun i j => .int (i % j)) modD := opp_ic fun i j h => of_decide_eq_true h
noncomputable def divC (_ j : Int) : Bool := decide (0 < j ∧ j < 2 ^ 128)
noncomputable def divD := fIc divC fun i j => i / j
theorem opp_div : OpP K (rI (fun _ j => 0 < j ∧ j.natAbs.log2 < 9000) fun i j => .int (i / j)) divD := opp_ic fun i j h => by
  have h' := of_decide_eq_true h
  refine ⟨h'.1, ?_⟩
  have h2 : j.natAbs < 2 ^ 128 := by
    have := h'.2
    omega
  have h3 : j.natAbs.log2 < 128 := (Nat.log2_lt (by omega)).mpr h2
  omega
noncomputable def powC (i j : Int) : Bool := decide (0 ≤ j ∧ j ≤ 1000000 ∧ i.natAbs < 2 ^ 64)
theorem powC_ok (i j : Int) (h : powC i j = true) : CPow i j := by
  unfold powC at h
  exact (show 0 ≤ j ∧ j ≤ 1000000 ∧ i.natAbs < 2 ^ 64 from of_decide_eq_true h)
noncomputable def powD := fIc powC fun i j => i ^ j.toNat
theorem opp_pow : OpP K (rI CPow fun i j => .int (i ^ j.toNat)) powD := opp_ic powC_ok
noncomputable def ltD := fB fun i j => decide (i < j)
noncomputable def leD := fB fun i j => decide (i ≤ j)
noncomputable def gtD := fB fun i j => decide (j < i)
noncomputable def geD := fB fun i j => decide (j ≤ i)
theorem opp_lt : OpP K (rI0 fun i j => .bl (decide (i < j))) ltD := opp_b
theorem opp_le : OpP K (rI0 fun i j => .bl (decide (i ≤ j))) leD := opp_b
theorem opp_gt : OpP K (rI0 fun i j => .bl (decide (j < i))) gtD := opp_b
theorem opp_ge : OpP K (rI0 fun i j => .bl (decide (j ≤ i))) geD := opp_b
noncomputable def okD (d : D) : Bool := d.canLay0 && decide (d.depth ≤ 64)
noncomputable def eqD (d e : D) : Option RV := if (okD d && e.canLay0) = true then some (.fz (.bool (PyData.eqv d e))) else none
noncomputable def neD (d e : D) : Option RV := if (okD d && e.canLay0) = true then some (.fz (.bool (!PyData.eqv d e))) else none
theorem opp_eq : OpP K (rEqD K false) eqD := by
  intro O H x y dx dy rv Q n hx hy e q
  unfold eqD at e
  split at e
  · rename_i hc
    cases e
    unfold okD at hc
    simp only [Bool.and_eq_true, decide_eq_true_eq] at hc
    exact ⟨dx, dy, hx.plain, hy.plain, hc.1.1, hc.2, hc.1.2, q.at (.bl _)⟩
  · cases e
theorem opp_ne : OpP K (rEqD K true) neD := by
  intro O H x y dx dy rv Q n hx hy e q
  unfold neD at e
  split at e
  · rename_i hc
    cases e
    unfold okD at hc
    simp only [Bool.and_eq_true, decide_eq_true_eq] at hc
    exact ⟨dx, dy, hx.plain, hy.plain, hc.1.1, hc.2, hc.1.2, q.at (.bl _)⟩
  · cases e
noncomputable def isnD : D → D → Option RV
  | .none, .none => some (.fz (.bool true))
  | _, .none => some (.fz (.bool false))
  | _, _ => none
theorem dx_non {O : Own} {H : Hp} {x : V} {d : D} (h : DX O K H x d) (hd : d ≠ .none) : x ≠ .non := by
  cases d with
  | none => exact absurd rfl hd
  | list ds => obtain ⟨a, xs, rfl, _⟩ := DXl h; simp
  | tuple ds => obtain ⟨a, xs, rfl, _⟩ := DXt h; simp
  | bool b => cases h; simp
  | int b => cases h; simp
  | str b => cases h; simp
  | dict b => cases h
theorem opp_isn : OpP K (fun x y H Q => y = .non ∧ Q (.bl (decide (x = .non))) H) isnD := by
  intro O H x y dx dy rv Q n hx hy e q
  unfold isnD at e
  split at e
  · cases e
    cases hx; cases hy
    exact ⟨rfl, q.at (.bl _)⟩
  · rename_i hd
    cases e
    cases hy
    refine ⟨rfl, ?_⟩
    rw [decide_eq_false (dx_non hx hd)]
    exact q.at (.bl _)
  · cases e
noncomputable def rInD (K : PySem.W.Frag) (neg : Bool) : R2 := fun x y H Q => ∃ d ds, L2.DV K H x d ∧ (L2.DV K H y (.list ds) ∨ L2.DV K H y (.tuple ds)) ∧ d.canLay0 = true ∧ PyData.canLayAll0 ds = true ∧ d.depth ≤ 64 ∧ Q (.bl (if neg then !(ds.any fun e => PyData.eqv e d) else ds.any fun e => PyData.eqv e d)) H
theorem op_inD {X : Cx} (hu : X.A.units + 65 < cLine) : OpR X (compareOp .In) (rInD X.K false) := by
  intro pins s σ H x y v u Q I rx ry h
  obtain ⟨d, ds, h1, h2, l1, l2, hd, q⟩ := h
  obtain ⟨as, r1⟩ := h1.reads I rx
  have hm : min (PyData.depthAll ds) d.depth ≤ 64 := Nat.le_trans (Nat.min_le_right _ _) hd
  rcases h2 with h2 | h2
  · obtain ⟨bs, r2⟩ := h2.reads I ry
    exact PySem.SeqAt.in_list_reads r2 r1 l2 l1 (by omega) ⟨.bl _, H, I, rfl, q⟩
  · obtain ⟨bs, r2⟩ := h2.reads I ry
    exact PySem.SeqAt.in_tuple_reads r2 r1 l2 l1 (by omega) ⟨.bl _, H, I, rfl, q⟩
theorem op_ninD {X : Cx} (hu : X.A.units + 65 < cLine) : OpR X (compareOp .NotIn) (rInD X.K true) := by
  intro pins s σ H x y v u Q I rx ry h
  obtain ⟨d, ds, h1, h2, l1, l2, hd, q⟩ := h
  obtain ⟨as, r1⟩ := h1.reads I rx
  have hm : min (PyData.depthAll ds) d.depth ≤ 64 := Nat.le_trans (Nat.min_le_right _ _) hd
  rcases h2 with h2 | h2
  · obtain ⟨bs, r2⟩ := h2.reads I ry
    exact PySem.SeqAt.notIn_list_reads r2 r1 l2 l1 (by omega) ⟨.bl _, H, I, rfl, q⟩
  · obtain ⟨bs, r2⟩ := h2.reads I ry
    exact PySem.SeqAt.notIn_tuple_reads r2 r1 l2 l1 (by omega) ⟨.bl _, H, I, rfl, q⟩
noncomputable def inD (d e : D) : Option RV := match asSeq e with
  | some ds => if (okD d && PyData.canLayAll0 ds) = true then some (.fz (.bool (ds.any fun e => PyData.eqv e d))) else none
  | none => none
noncomputable def ninD (d e : D) : Option RV := match asSeq e with
  | some ds => if (okD d && PyData.canLayAll0 ds) = true then some (.fz (.bool (!ds.any fun e => PyData.eqv e d))) else none
  | none => none
theorem seq_of {O : Own} {H : Hp} {y : V} {e : D} {ds : List D} (hy : DX O K H y e) (h : asSeq e = some ds) : L2.DV K H y (.list ds) ∨ L2.DV K H y (.tuple ds) := by
  unfold asSeq at h
  split at h
  · cases h; exact .inr hy.plain
  · cases h; exact .inl hy.plain
  · cases h
theorem opp_in : OpP K (rInD K false) inD := by
  intro O H x y dx dy rv Q n hx hy e q
  unfold inD at e
  split at e
  · rename_i ds hs
    split at e
    · rename_i hc
      cases e
      unfold okD at hc
      simp only [Bool.and_eq_true, decide_eq_true_eq] at hc
      exact ⟨dx, ds, hx.plain, seq_of hy hs, hc.1.1, hc.2, hc.1.2, q.at (.bl _)⟩
    · cases e
  · cases e
theorem opp_nin : OpP K (rInD K true) ninD := by
  intro O H x y dx dy rv Q n hx hy e q
  unfold ninD at e
  split at e
  · rename_i ds hs
    split at e
    · rename_i hc
      cases e
      unfold okD at hc
      simp only [Bool.and_eq_true, decide_eq_true_eq] at hc
      exact ⟨dx, ds, hx.plain, seq_of hy hs, hc.1.1, hc.2, hc.1.2, q.at (.bl _)⟩
    · cases e
  · cases e
noncomputable def ixD (d e : D) : Option RV := match asSeq d, e with
  | some ds, .int i => (atI ds i).map .fz
  | _, _ => none
theorem atI_dv {O : Own} {H : Hp} {xs : List V} {ds : List D} {i : Int} {d : D} (h : DVs O K H xs ds) (e : atI ds i = some d) : ∃ v, atI xs i = some v ∧ DV O K H v d := by
  unfold atI at e ⊢
  rw [h.length]
  cases q : ixN ds.length i with
  | none => rw [q] at e; cases e
  | some j =>
    rw [q] at e
    exact h.get e
theorem opp_ix : OpP K (rIx K) ixD := by
  intro O H x y dx dy rv Q n hx hy e q
  unfold ixD at e
  split at e
  · rename_i ds i hs
    cases hy
    cases qa : atI ds i with
    | none => rw [qa] at e; cases e
    | some d =>
      rw [qa] at e
      cases e
      unfold asSeq at hs
      split at hs
      · cases hs
        obtain ⟨a, xs, rfl, h1, h2⟩ := DXt hx
        obtain ⟨v, hv, dv⟩ := atI_dv h2 qa
        exact .inr (.inl ⟨a, xs, i, v, rfl, rfl, h1.1, hv, q.at dv⟩)
      · cases hs
        obtain ⟨a, xs, rfl, h1, h2⟩ := DXl hx
        obtain ⟨v, hv, dv⟩ := atI_dv h2 qa
        exact .inl ⟨a, xs, i, v, rfl, rfl, h1.sq, hv, q.at dv⟩
      · cases hs
  · cases e
noncomputable def cutD (xs : List D) (lo hi : Option Int) : List D := (xs.drop (HT.sIx xs.length 0 lo)).take (HT.sIx xs.length xs.length hi - HT.sIx xs.length 0 lo)
theorem cut_dv {O : Own} {H : Hp} {xs : List V} {ds : List D} {lo hi : Option Int} (h : DVs O K H xs ds) : DVs O K H (cutV xs lo hi) (cutD ds lo hi) := by
  unfold cutV cutD
  rw [h.length]
  exact (h.drop _).take _
noncomputable def wholeCut (n : Nat) (lo hi : Option Int) : Bool := decide (HT.sIx n 0 lo = 0 ∧ HT.sIx n n hi = n)
noncomputable def rSlA (K : PySem.W.Frag) : V → Option Int → Option Int → Hp → VK → Prop := fun x lo hi H Q => rSlL K x lo hi H Q ∨ rSlT K x lo hi H Q
theorem sl_any {X : Cx} : SlR X (rSlA X.K) := by
  intro pins s σ H x v vl vu lo hi sl Q I rx hs pl pu h
  rcases h with h | h
  · exact sl_list pins s σ H x v vl vu lo hi sl Q I rx hs pl pu h
  · exact sl_tup pins s σ H x v vl vu lo hi sl Q I rx hs pl pu h
noncomputable def slD : D → Option Int → Option Int → Option RV
  | .list ds, lo, hi => some (.ow (cutD ds lo hi))
  | .tuple ds, lo, hi => if wholeCut ds.length lo hi = true then none else some (.fz (.tuple (cutD ds lo hi)))
  | _, _, _ => none
theorem slp_any : SlP K (rSlA K) slD := by
  intro O H x lo hi dx rv Q n hx e q
  unfold slD at e
  split at e
  · cases e
    obtain ⟨a, xs, rfl, h1, h2⟩ := DXl hx
    exact .inl ⟨a, xs, rfl, h1.sq, Fin.new (cut_dv h2) q⟩
  · split at e
    · cases e
    · rename_i hw
      cases e
      obtain ⟨a, xs, rfl, h1, h2⟩ := DXt hx
      refine .inr ⟨a, xs, rfl, h1.1, fun z => hw ?_, Fin.newT (cut_dv h2) n q⟩
      unfold wholeCut
      rw [← h2.length]
      exact decide_eq_true z
  · cases e
noncomputable def negD : D → Option RV
  | .int i => some (.fz (.int (-i)))
  | _ => none
theorem unp_neg : UnP K (rU fun i => .int (-i)) negD := by
  intro O H x dx rv Q n hx e q
  unfold negD at e
  split at e
  · cases e
    cases hx
    exact ⟨_, rfl, q.at (.int _)⟩
  · cases e
noncomputable def lenD : List D → Option RV
  | [d] => (match asSeq d with
    | some ds => some (.fz (.int ds.length))
    | none => none)
  | _ => none
theorem cb_len : CbP K (fun xs H Q => ∃ x n, xs = [x] ∧ LenV K x H n ∧ Q (.int n) H) lenD := by
  intro O H xs ds rv Q n hp e q
  unfold lenD at e
  split at e
  · split at e
    · rename_i es hs
      cases e
      cases hp with
      | cons h1 h2 =>
        cases h2
        unfold asSeq at hs
        split at hs
        · cases hs
          obtain ⟨a, xs, rfl, h1, h2⟩ := DXt h1
          exact ⟨_, xs.length, rfl, .inr ⟨xs, h1.1, rfl⟩, by rw [h2.length]; exact q.at (.int _)⟩
        · cases hs
          obtain ⟨a, xs, rfl, h1, h2⟩ := DXl h1
          exact ⟨_, xs.length, rfl, .inl ⟨xs, h1.sq, rfl⟩, by rw [h2.length]; exact q.at (.int _)⟩
        · cases hs
    · cases e
  · cases e
noncomputable def tupD : List D → Option RV
  | [.tuple ds] => some (.fz (.tuple ds))
  | [.list ds] => some (.fz (.tuple ds))
  | _ => none
theorem cb_tuple : CbP K (fun xs H Q => ∃ p ys, xs = [.ref p] ∧ ((SqL K H p ys ∧ ∀ l, H l = none → Q (.ref l) (upd H l (.tup ys))) ∨ (SqT K H p ys ∧ Q (.ref p) H))) tupD := by
  intro O H xs ds rv Q n hp e q
  unfold tupD at e
  split at e
  · cases e
    cases hp with
    | cons h1 h2 =>
      cases h2
      obtain ⟨a, xs, rfl, h1, h2⟩ := DXt h1
      exact ⟨a, xs, rfl, .inr ⟨h1.1, q.at (.tup h1 h2)⟩⟩
  · cases e
    cases hp with
    | cons h1 h2 =>
      cases h2
      obtain ⟨a, xs, rfl, h1, h2⟩ := DXl h1
      exact ⟨a, xs, rfl, .inl ⟨h1.sq, Fin.newT h2 n q⟩⟩
  · cases e
noncomputable def lstD : List D → Option RV
  | [d] => (asSeq d).map .ow
  | _ => none
theorem cb_list : CbP K (fun xs H Q => ∃ p ys, xs = [.ref p] ∧ (SqL K H p ys ∨ SqT K H p ys) ∧ ∀ l, H l = none → Q (.ref l) (upd H l (.lst ys))) lstD := by
  intro O H xs ds rv Q n hp e q
  unfold lstD at e
  split at e
  · rename_i d
    cases hp with
    | cons h1 h2 =>
      cases h2
      cases hs : asSeq d with
      | none => rw [hs] at e; cases e
      | some es =>
        rw [hs] at e
        cases e
        unfold asSeq at hs
        split at hs
        · cases hs
          obtain ⟨a, xs, rfl, h1, h2⟩ := DXt h1
          exact ⟨a, xs, rfl, .inr h1.1, Fin.new h2 q⟩
        · cases hs
          obtain ⟨a, xs, rfl, h1, h2⟩ := DXl h1
          exact ⟨a, xs, rfl, .inl h1.sq, Fin.new h2 q⟩
        · cases hs
  · cases e
noncomputable def max2D : List D → Option RV
  | [.int i, .int j] => some (.fz (.int (if j > i then j else i)))
  | _ => none
theorem cb_max2 : CbP K (fun xs H Q => ∃ i j, xs = [.int i, .int j] ∧ Q (.int (if j > i then j else i)) H) max2D := by
  intro O H xs ds rv Q n hp e q
  unfold max2D at e
  split at e
  · cases e
    cases hp with
    | cons h1 h2 =>
      cases h2 with
      | cons h2 h3 =>
        cases h3; cases h1; cases h2
        exact ⟨_, _, rfl, q.at (.int _)⟩
  · cases e
end
end L3
namespace PySem
open Sem (wp)
open AutoSeq1 (wpAny_loadPart')
open Builtin Builtin.Str
section
variable {prog : Program} {w : World} {A : Around} {E : Value → Shared → Prop} {s : Shared}
theorem nextOf_tuple_item {it t : Addr} {i : Nat} {items : Array Value} {x : Value} {Q : Value → Shared → Prop} (hit : s.heap.IsTupleIter it t i) (ht : s.heap.IsTuple t items) (hx : items[i]? = some x)
    (hQ : ∀ h', h'.IsTupleIter it t (i + 1) → Heap.SameBut it s.heap h' → Q x { s with heap := h' }) : wpAny (model prog w) A (Builtin.SmallTypes.nextOf (.ref it)) Q E s := by
  obtain ⟨o, ho, hc, hd⟩ := id hit
  obtain ⟨ol, hol, _, nl, hdl⟩ := ht
  unfold Builtin.SmallTypes.nextOf
  refine wpAny_bind (wpAny_callSpecial?_slot (name := Str.ofString "__next__") hit.typeIs F.slot_tuple_iterator_next
    (wpAny_call_entry F.slot_tuple_iterator_next hit.typeIs F.entry_tuple_iterator_next ?_ (F.args_tuple_iterator_next_1 _)))
  show wpAny _ _ (field (.ref it) 0 >>= _) _ _ s
  refine wpAny_bind (wpAny_field ho hd (x := .ref t) rfl ?_)
  show wpAny _ _ (if (Value.ref t == Value.none) = true then _ else _) _ _ s
  rw [if_neg (show ¬ ((Value.ref t == Value.none) = true) from Bool.false_ne_true)]
  show wpAny _ _ (field (.ref it) 1 >>= _) _ _ s
  refine wpAny_bind (wpAny_field ho hd (x := .int i 0) rfl ?_)
  show wpAny _ _ (seqItems? (.ref t) >>= _) _ _ s
  refine wpAny_bind (wpAny_seqItems hol hdl ?_)
  simp only [Int.toNat_natCast, hx]
  refine wpAny_bind (wpAny_setField ho hd (by simp) (wpAny_pure ⟨x, rfl, wpAny_pure (hQ _ ?_ (Heap.SameBut.update ..))⟩))
  exact ⟨_, Heap.get?_update_self _ ho (Obj.isFreed_of_fields (Obj.data_mapFields hd _)), (Obj.cls_mapFields ..).trans hc, by
    rw [Obj.data_mapFields hd]; simp [rawInt]⟩
theorem nextOf_tuple_end {it t : Addr} {i : Nat} {items : Array Value} {Q : Value → Shared → Prop} (hh : A.handled = none) (hit : s.heap.IsTupleIter it t i) (ht : s.heap.IsTuple t items) (hx : items[i]? = none)
    (hE : ∀ h' e, Heap.ExtBut it s.heap h' → (∃ o, h'.get? e = some o ∧ o.cls = .type "StopIteration") → E (.ref e) { s with heap := h' }) : wpAny (model prog w) A (Builtin.SmallTypes.nextOf (.ref it)) Q E s := by
  obtain ⟨o, ho, hc, hd⟩ := id hit
  obtain ⟨ol, hol, _, nl, hdl⟩ := ht
  unfold Builtin.SmallTypes.nextOf
  refine wpAny_bind (wpAny_callSpecial?_slot (name := Str.ofString "__next__") hit.typeIs F.slot_tuple_iterator_next
    (wpAny_call_entry F.slot_tuple_iterator_next hit.typeIs F.entry_tuple_iterator_next ?_ (F.args_tuple_iterator_next_1 _)))
  show wpAny _ _ (field (.ref it) 0 >>= _) _ _ s
  refine wpAny_bind (wpAny_field ho hd (x := .ref t) rfl ?_)
  show wpAny _ _ (if (Value.ref t == Value.none) = true then _ else _) _ _ s
  rw [if_neg (show ¬ ((Value.ref t == Value.none) = true) from Bool.false_ne_true)]
  show wpAny _ _ (field (.ref it) 1 >>= _) _ _ s
  refine wpAny_bind (wpAny_field ho hd (x := .int i 0) rfl ?_)
  show wpAny _ _ (seqItems? (.ref t) >>= _) _ _ s
  refine wpAny_bind (wpAny_seqItems hol hdl ?_)
  simp only [Int.toNat_natCast, hx]
  refine wpAny_bind (wpAny_rule (wpAny_bind (wpAny_setField ho hd (by simp) ?_)))
  show wpAny _ _ (newExc (.type "StopIteration") [] >>= _) _ _ _
  refine wpAny_bind ?_
  simp only [newExc, newTuple]
  refine wpAny_bind (wpAny_newObj_type ?_ (by size_fits))
  refine wpAny_bind (m := firstArgMember _ _) (wpAny_of_eq (a := Value.none) (by first | rfl | (simp only [firstArgMember]; rfl)) ?_)
  refine wpAny_newObj_type ?_ (by size_fits)
  simp only [raiseNew]
  refine wpAny_bind (wpAny_handled ?_)
  first | rw [show A.in1.handled = none from hh] | rw [hh]
  refine wpAny_bind (wpAny_pure (wpAny_throw ?_))
  exact hE _ _ (((Heap.SameBut.update ..).extBut.push _).push _) ⟨_, Heap.get?_push_size _ rfl, rfl⟩
end
theorem drawsTup {prog : Program} {w : World} {A : Around} (hh : A.handled = none) (it l : Addr) (hne : l ≠ it) (items : Array Value) :
    Draws prog w A it [it, l] items.size (fun i v => items[i]? = some v) (fun i h => h.IsTupleIter it l i ∧ h.IsTuple l items) where
  live := fun _ _ st => let ⟨o, ho, _⟩ := st.1; ⟨o, ho⟩
  frame := fun _ _ _ st hk => ⟨st.1.at fun o e => hk it (by simp) o e, let ⟨o, h1, h2⟩ := st.2; ⟨o, hk l (by simp) o h1, h2⟩⟩
  item := fun i s Q E hi st hQ => by
    refine nextOf_tuple_item st.1 st.2 (x := items[i]) (by simp [hi]) fun h' hit' hs' => ?_
    exact hQ _ h' s.toks (by simp [hi]) ⟨hit', let ⟨o, h1, h2⟩ := st.2; ⟨o, (hs'.2 l hne).trans h1, h2⟩⟩ hs'
  done := fun s Q E st hE => nextOf_tuple_end hh st.1 st.2 (by simp) hE
set_option maxHeartbeats 4000000 in
theorem meets_enumerate_newT (l : Addr) (items : Array Value) (n : Nat) (dct : Option Addr) (sl : Array (Option Value)) :
    Meets (Builtin.«enumerate.__new__» ⟨[.type "enumerate", .ref l], []⟩) (fun _ R s => s.heap.get? l = some { cls := .type "tuple", dict := dct, data := .seq items n, slots := sl } ∧
      R (.ok (.ret (.ref (s.heap.push { cls := .type "tuple_iterator", data := .fields #[.ref l, .int 0 0] }).objs.size)))
        { s with heap := (s.heap.push { cls := .type "tuple_iterator", data := .fields #[.ref l, .int 0 0] }).push { cls := .type "enumerate", data := .fields #[.none, .bool false, .ref s.heap.objs.size, rawInt 0, .none, .none] } }) :=
  .of_wp fun prog w A R s h => by
    obtain ⟨hp, g, d, tk, os⟩ := s; obtain ⟨hl, h⟩ := h
    have hsub := sub_enumerate
    have hL : Heap.IsTuple (Shared.heap ⟨hp, g, d, tk, os⟩) l items := ⟨_, hl, rfl, n, rfl⟩
    wp_walk using wpAny_loadPart' hl
    refine wpAny_stack_any fun st => wpAny_pure ?_
    split
    · rename_i c _ _ _ _ _
      cases (c == Value.type "enumerate")
      · wp_walk using wpAny_loadPart' hl, wpAny_pyIter_tuple hL
        exact ⟨_, rfl, h⟩
      · wp_walk using wpAny_loadPart' hl, wpAny_pyIter_tuple hL
        exact ⟨_, rfl, h⟩
    · wp_walk using wpAny_loadPart' hl, wpAny_pyIter_tuple hL
      exact ⟨_, rfl, h⟩
section
variable {prog : Program} {w : World} {A : Around} {E : Value → Shared → Prop} {s : Shared}
theorem call_enumerate_tuple {l : Addr} {items : Array Value} {Q : Value → Shared → Prop} (hL : s.heap.IsTuple l items)
    (h : ∀ h', IsEnum h' (s.heap.objs.size + 1) s.heap.objs.size 0 .none → h'.IsTupleIter s.heap.objs.size l 0 → h'.objs.size = s.heap.objs.size + 2 →
      (∀ b o, s.heap.get? b = some o → h'.get? b = some o) → Q (.ref (s.heap.objs.size + 1)) { s with heap := h' }) :
    wpAny (model prog w) A (call (.type "enumerate") [.ref l]) Q E s := by
  obtain ⟨⟨c, dct, dt, sl⟩, hl, hc, n, hd⟩ := hL
  replace hc : c = .type "tuple" := hc
  replace hd : dt = .seq items n := hd
  subst hc hd
  refine callType_new F.called_enumerate (by decide) (F.typeCall_enumerate_1 _) (F.newCall_enumerate_1 _) (fun obj => F.args_object_init_2 obj _) F.entry_enumerate_new
    (meets_enumerate_newT l items n dct sl) ⟨hl, ?_⟩
  have hz : (s.heap.push { cls := .type "tuple_iterator", data := .fields #[.ref l, .int 0 0] }).objs.size = s.heap.objs.size + 1 := Heap.size_push ..
  show _ ∧ _
  rw [hz]
  have he : IsEnum ((s.heap.push { cls := .type "tuple_iterator", data := .fields #[.ref l, .int 0 0] }).push
      { cls := .type "enumerate", data := .fields #[.none, .bool false, .ref s.heap.objs.size, rawInt 0, .none, .none] }) (s.heap.objs.size + 1) s.heap.objs.size 0 .none := by
    have := Heap.get?_push_size (s.heap.push { cls := .type "tuple_iterator", data := .fields #[.ref l, .int 0 0] })
      (o := { cls := .type "enumerate", data := .fields #[.none, .bool false, .ref s.heap.objs.size, rawInt 0, .none, .none] }) rfl
    rw [hz] at this; exact this
  refine ⟨⟨_, he, rfl⟩, h _ he ⟨_, Heap.get?_push_of_some _ (Heap.get?_push_size _ rfl), rfl, rfl⟩ (by rw [Heap.size_push, hz]) fun b o x => Heap.get?_push_of_some _ (Heap.get?_push_of_some _ x)⟩
end
end PySem
namespace L3
open PySem PySem.Spec PyProof.Rows L2
noncomputable def Itet (K : PySem.W.Frag) (a : Addr) : It :=
  ⟨fun i H => ∃ xs x, SqT K H a xs ∧ xs[i]? = some x,
   fun i H v H' => ∃ p x, H p = none ∧ v = .ref p ∧ (∀ xs, SqT K H a xs → xs[i]? = some x) ∧ H' = upd H p (.tup [.int i, x]),
   fun i H => ∃ xs, SqT K H a xs ∧ xs.length ≤ i⟩
theorem tup_inj {X : Cx} {pins : List (Addr × Obj)} {σ : L2.St} {H : Hp} {s : Shared} {a : Addr} {xs ys : List V} (I : Inv X pins σ H s) (h1 : SqT X.K H a xs) (h2 : SqT X.K H a ys) : xs = ys := by
  obtain ⟨its, r1, ⟨o, e1, _, n, d1⟩, _⟩ := I.tuple h1
  obtain ⟨its2, r2, ⟨o2, e2, _, n2, d2⟩, _⟩ := I.tuple h2
  rw [e1] at e2
  cases e2
  rw [d1] at d2
  have : its = its2 := by
    have q : its.toArray = its2.toArray := by injection d2
    simpa using q
  subst this
  exact r1.inj r2
theorem turn_enumT {P : Program} {w : World} {K : PySem.W.Frag} {elts : List Expr} {kk} {tp : Pos} (a e it : Addr) (hne : e ≠ it) (hai : a ≠ it) (hae : a ≠ e) :
    Turn P w K (.Tuple elts kk tp) (Itet K a) [e, it] e (fun i h => (∃ old, IsEnum h e it i old) ∧ h.IsTupleIter it a i) where
  mem := by simp
  obj := fun i h st b hb => by
    obtain ⟨⟨old, he⟩, o, ho, _, d⟩ := st
    rcases List.mem_cons.mp hb with z | hb
    · subst z
      exact ⟨_, he, fun v z => by cases (show Data.fields _ = Data.cell v from z)⟩
    · have z : b = it := by simpa using hb
      subst z
      exact ⟨o, ho, fun v z => by rw [d] at z; cases z⟩
  keep := fun i h h' st k => by
    obtain ⟨⟨old, he⟩, hit⟩ := st
    exact ⟨⟨old, k e (by simp) _ he⟩, hit.at fun o q => k it (by simp) o q⟩
  item := by
    intro X hP hw hK hc i pins s σ H E I hf st hg
    subst hP hw hK
    obtain ⟨⟨old, he⟩, hit⟩ := st
    obtain ⟨xs, x, hq, hx⟩ := hg
    obtain ⟨its, rv, p, hz⟩ := I.tuple hq
    obtain ⟨u, hu, ru⟩ := rv.get hx
    have hlt : i < its.toArray.size := by
      have := (List.getElem?_eq_some_iff.mp hu).1
      simpa using this
    refine wpAny_pyNext_enum_itemD (drawsTup (A := X.A.in1) (I.ok.hd hc) it a hai its.toArray) he ⟨hit, p⟩ hlt hne (by simp [hne, hae.symm]) fun y h1 tk hy ho hit1 hT hsz hk => ⟨_, rfl, ?_⟩
    have hyu : y = u := by
      have q : its.toArray[i]? = some u := by simpa using hu
      rw [q] at hy
      exact (Option.some.inj hy).symm
    subst hyu
    refine wpAny_letOwnedTupleGo_enum (s := { s with heap := h1, toks := tk + 1 }) ho fun h2 he2 hs2 => ?_
    have hel : e < s.heap.objs.size := Heap.lt_size he
    have hil : it < s.heap.objs.size := by obtain ⟨_, z, _⟩ := hit; exact Heap.lt_size z
    have hn : H s.heap.objs.size = none := I.hok.fresh (Nat.le_refl _)
    have kk : ∀ b o, b ∉ [e, it] → s.heap.get? b = some o → h2.get? b = some o := fun b o hb q => by
      have h3 : b ≠ e := fun z => hb (by simp [z])
      have h4 : b ≠ it := fun z => hb (by simp [z])
      exact (hs2.2 b h3).trans (hk b o h3 h4 q)
    have hT2 : h2.get? s.heap.objs.size = some { cls := .type "tuple", data := .seq #[.int i tk, y] } := (hs2.2 _ (Nat.ne_of_gt hel)).trans hT
    have I2 : Inv X pins σ (upd H s.heap.objs.size (.tup [.int i, x])) { s with heap := h2, toks := tk + 1 } :=
      I.turnedLaid (ch := [e, it]) hf kk (Nat.le_refl _) ⟨by show 2 ≤ sizeLine; decide, [.int i tk, y], .cons ⟨_, rfl⟩ (.cons ru .nil), ⟨_, hT2, rfl, _, rfl⟩⟩
    refine ⟨.ref s.heap.objs.size, _, I2, rfl, ⟨_, x, hn, rfl, fun ys hy => by rw [tup_inj I hy hq]; exact hx, rfl⟩, ⟨⟨y, he2⟩, hit1.1.at fun o q => (hs2.2 it hne.symm).trans q⟩, fun b hb => ?_⟩
    have hb2 : b ≠ s.heap.objs.size := by
      rcases List.mem_cons.mp hb with z | hb
      · rw [z]; exact Nat.ne_of_lt hel
      · rw [show b = it by simpa using hb]; exact Nat.ne_of_lt hil
    rw [upd_ne hb2]
    exact (hf b hb).1
  done := by
    intro X hP hw hK hc i pins s σ H E I hf st hg
    subst hP hw hK
    obtain ⟨⟨old, he⟩, hit⟩ := st
    obtain ⟨xs, hq, hx⟩ := hg
    obtain ⟨its, rv, p, hz⟩ := I.tuple hq
    obtain ⟨f0, f1, f2, f3, f4, f5⟩ := hf it (by simp)
    have hl := rv.length
    have D' : Draws X.prog X.w X.A.in1 it [it, a] i (fun _ _ => True) (fun j h => j = i ∧ h.IsTupleIter it a i ∧ h.IsTuple a its.toArray) :=
      ⟨fun j h st => let ⟨o, ho, _⟩ := st.2.1; ⟨o, ho⟩, fun j h h' st hk => ⟨st.1, st.2.1.at fun o e => hk it (by simp) o e, let ⟨o, h1, h2⟩ := st.2.2; ⟨o, hk a (by simp) o h1, h2⟩⟩,
        fun j s Q E hj st hQ => absurd st.1 (Nat.ne_of_lt hj), fun s Q E st hE => nextOf_tuple_end (I.ok.hd hc) st.2.1 st.2.2 (by simp; omega) hE⟩
    exact wpAny_pyNext_enum_endD D' he ⟨rfl, hit, p⟩ fun h1 eb => ⟨rfl, I.turned (t' := s.toks) (fun b o hb q => eb b o hb q) f0 f1 f3 f4 f5⟩
  self := fun _ _ _ _ _ st h => by
    obtain ⟨⟨old, he⟩, _⟩ := st
    exact wpAny_pyIter_enum he h
noncomputable def iEnumA (K : PySem.W.Frag) (ta : TA) : TI := fun σ H R => ta σ H fun vs H1 => ∃ a, vs = [.ref a] ∧ (((∃ xs, SqL K H1 a xs) ∧ R (Ite K a) H1) ∨ ((∃ xs, SqT K H1 a xs) ∧ R (Itet K a) H1))
theorem pi_enumA {X : Cx} {l : Expr} {ta : TA} {p pos tp : Pos} {elts : List Expr} {kk} (hg : Gl X "enumerate") (hm : X.mg "enumerate" = none) (ha : PA X [l] ta) (hs : starEach [l] X.env = [(false, eval l X.env)] := by rfl) :
    PI X (.Tuple elts kk tp) (.Call (.Name "enumerate" p) [l] [] pos) (iEnumA X.K ta) := by
  intro pins s σ H R I h
  refine Call_ (ld_blt I hg hm boot_enumerate (PyProof.Rows.callWith_type1 (thn (ha pos pins s σ H _ I h) fun us s1 ⟨vs, H1, I1, r1, q1⟩ => ?_) hs rfl))
  obtain ⟨a, e, q⟩ := q1
  subst e
  obtain ⟨u, rfl, ru⟩ := vals1 r1
  cases ru
  have fp : ∀ b ∈ [s1.heap.objs.size + 1, s1.heap.objs.size], FpOk X pins H1 b := fun b hb => by
    have hb2 : s1.heap.objs.size ≤ b := by
      rcases List.mem_cons.mp hb with z | hb
      · rw [z]; exact Nat.le_succ _
      · rw [show b = s1.heap.objs.size by simpa using hb]; exact Nat.le_refl _
    exact I1.fpOk hb2 (I1.hok.fresh hb2)
  rcases q with ⟨⟨xs, hq⟩, q⟩ | ⟨⟨xs, hq⟩, q⟩
  · obtain ⟨its, rv, pl, hz⟩ := I1.list hq
    refine call_enumerate_list pl.isList fun h1 he hit hsz hk => ?_
    refine wpAny_pyIter_enum (s := { s1 with heap := h1 }) he ?_
    exact ⟨s1.heap.objs.size + 1, [s1.heap.objs.size + 1, s1.heap.objs.size], _, _, H1, rfl, I1.kept (t' := s1.toks) hk, turn_enum a _ _ (Nat.succ_ne_self _), ⟨⟨_, he⟩, hit⟩, fp, q⟩
  · obtain ⟨its, rv, pl, hz⟩ := I1.tuple hq
    refine call_enumerate_tuple pl fun h1 he hit hsz hk => ?_
    refine wpAny_pyIter_enum (s := { s1 with heap := h1 }) he ?_
    have hal : a < s1.heap.objs.size := by obtain ⟨_, z, _⟩ := pl; exact Heap.lt_size z
    exact ⟨s1.heap.objs.size + 1, [s1.heap.objs.size + 1, s1.heap.objs.size], _, _, H1, rfl, I1.kept (t' := s1.toks) hk, turn_enumT a _ _ (Nat.succ_ne_self _) (Nat.ne_of_lt hal) (Nat.ne_of_lt (Nat.lt_succ_of_lt hal)), ⟨⟨_, he⟩, hit⟩, fp, q⟩
noncomputable def enumFrom (i : Nat) : List D → List D
  | [] => []
  | d :: r => .tuple [.int (i : Nat), d] :: enumFrom (i + 1) r
theorem enumFrom_len : ∀ (ds : List D) (i : Nat), (enumFrom i ds).length = ds.length
  | [], _ => rfl
  | d :: r, i => by show (enumFrom (i + 1) r).length + 1 = r.length + 1; rw [enumFrom_len r]
theorem enumFrom_get : ∀ (ds : List D) (i j : Nat), (enumFrom i ds)[j]? = (ds[j]?).map fun d => .tuple [.int ((i + j : Nat) : Int), d]
  | [], _, _ => by simp [enumFrom]
  | d :: r, i, 0 => rfl
  | d :: r, i, j + 1 => by
    show (enumFrom (i + 1) r)[j]? = _
    rw [enumFrom_get r (i + 1) j, List.getElem?_cons_succ]
    have : i + 1 + j = i + (j + 1) := by omega
    rw [this]
section
variable {K : PySem.W.Frag} {E : XK} {B O O' : Own} {H0 H H' : Hp} {σ : L2.St} {ρ ρ' : PEnv} {v : V}
theorem it_enumL {a : Addr} {xs : List V} {ds : List D} (h : SqLO O K H a xs) (hd : DVs O K H xs ds) : ItOk K (Ite K a) O H (enumFrom 0 ds) := by
  intro O' H' e n
  have h' := h.ev e
  have hd' := hd.ev e
  rw [enumFrom_len]
  refine ⟨fun i hi => ?_, ⟨xs, h'.1.sq, by rw [hd.length]; exact Nat.le_refl _⟩⟩
  obtain ⟨x, hx, dx⟩ := hd'.get (List.getElem?_eq_getElem hi)
  refine ⟨⟨xs, x, h'.1.sq, hx⟩, ?_⟩
  rintro y H'' ⟨p, z, hp, rfl, hz, rfl⟩
  have hz' := hz xs h'.1.sq
  rw [hx] at hz'
  cases hz'
  refine ⟨same_upd hp _, .tuple [.int i, ds[i]], ?_, .tup ⟨SqT.of upd_same, fun q => absurd q (n p hp)⟩ (.cons (.int _) (.cons (dx.ev (Ev.grow (same_upd hp _))) .nil))⟩
  rw [enumFrom_get, List.getElem?_eq_getElem hi]
  simp
theorem it_enumT {a : Addr} {xs : List V} {ds : List D} (h : SqTO O K H a xs) (hd : DVs O K H xs ds) : ItOk K (Itet K a) O H (enumFrom 0 ds) := by
  intro O' H' e n
  have h' := h.ev e
  have hd' := hd.ev e
  rw [enumFrom_len]
  refine ⟨fun i hi => ?_, ⟨xs, h'.1, by rw [hd.length]; exact Nat.le_refl _⟩⟩
  obtain ⟨x, hx, dx⟩ := hd'.get (List.getElem?_eq_getElem hi)
  refine ⟨⟨xs, x, h'.1, hx⟩, ?_⟩
  rintro y H'' ⟨p, z, hp, rfl, hz, rfl⟩
  have hz' := hz xs h'.1
  rw [hx] at hz'
  cases hz'
  refine ⟨same_upd hp _, .tuple [.int i, ds[i]], ?_, .tup ⟨SqT.of upd_same, fun q => absurd q (n p hp)⟩ (.cons (.int _) (.cons (dx.ev (Ev.grow (same_upd hp _))) .nil))⟩
  rw [enumFrom_get, List.getElem?_eq_getElem hi]
  simp
noncomputable def iEnum (fa : FA) : FI := fun ρ => (fa ρ).bind fun a => (Res.ofO (toDs a.2 a.1)).bind fun b => match b.1 with
  | [d] => (Res.ofO (asSeq d)).bind fun ds => .ok (enumFrom 0 ds, b.2)
  | _ => .bad
theorem io_enum {ta : TA} {fa : FA} (h : AO K E ta fa) : IO K E (iEnumA K ta) (iEnum fa) := by
  intro B H0 O σ H ρ R' R w
  refine h B H0 O σ H ρ _ R (w.bind.imp fun a w1 O1 vs H1 e1 R1 p1 => ?_)
  obtain ⟨⟨ds, ρ2⟩, q, w1⟩ := w1.ofO
  obtain ⟨O2, e2, R2, dv⟩ := tos_ok R1 p1 q
  dsimp only at w1
  cases dv with
  | nil => exact w1.elim
  | cons h1 h2 =>
    cases h2 with
    | cons _ _ => exact w1.elim
    | nil =>
      obtain ⟨es, qs, w1⟩ := WR.ofO w1
      cases h1 with
      | tup h hs => cases qs; exact ⟨_, rfl, .inr ⟨⟨_, h.1⟩, w1 O2 _ H1 (e1.trans e2) R2 (it_enumT h hs)⟩⟩
      | lst h hs => cases qs; exact ⟨_, rfl, .inl ⟨⟨_, h.1.sq⟩, w1 O2 _ H1 (e1.trans e2) R2 (it_enumL h hs)⟩⟩
      | _ => cases qs
end
theorem bools_get {bs : List Bool} {its : List Value} (r : Vals (bs.map V.bl) its) {i : Nat} {v : Value} (h : its[i]? = some v) : ∃ b, bs[i]? = some b ∧ v = .bool b := by
  have hl := r.length
  rw [List.length_map] at hl
  have hi : i < bs.length := by rw [hl]; exact (List.getElem?_eq_some_iff.mp h).1
  obtain ⟨u, hu, ru⟩ := r.get (i := i) (x := .bl bs[i]) (by rw [List.getElem?_map, List.getElem?_eq_getElem hi]; rfl)
  rw [h] at hu
  cases hu
  exact ⟨bs[i], List.getElem?_eq_getElem hi, ru⟩
theorem range_allB (bs : List Bool) : ((List.range bs.length).all fun i => (bs[i]?).getD true) = bs.all id := by
  rw [Bool.eq_iff_iff, List.all_eq_true, List.all_eq_true]
  constructor
  · intro h b hb
    obtain ⟨i, hi, e⟩ := List.mem_iff_getElem.mp hb
    have := h i (List.mem_range.mpr hi)
    rw [List.getElem?_eq_getElem hi, e] at this
    exact this
  · intro h i hi
    have hi := List.mem_range.mp hi
    rw [List.getElem?_eq_getElem hi]
    exact h _ (List.getElem_mem hi)
section
variable {X : Cx}
theorem call_all (hc : X.calm = true) : CallR X (.builtin "all") (fun xs H Q => ∃ (p : Addr) (bs : List Bool), xs = [.ref p] ∧ SqL X.K H p (bs.map V.bl) ∧ Q (.bl (bs.all id)) H) := by
  intro pins s σ H xs us Q I r h
  obtain ⟨l, bs, rfl, hq, q⟩ := h
  obtain ⟨u, rfl, ru⟩ := vals1 r
  cases ru
  obtain ⟨its, rv, pl, hz⟩ := I.list hq
  have hlen := rv.length
  rw [List.length_map] at hlen
  have hlt : l < s.heap.objs.size := by obtain ⟨_, _, e, _⟩ := pl; exact Heap.lt_size e
  refine call_all_walk (wpAny_pyIter_list pl.isList ?_)
  refine ⟨s.heap.objs.size, [s.heap.objs.size, l], [s.heap.objs.size], its.toArray.size, _, _, fun i => (bs[i]?).getD true, rfl, Walks.list (A := X.A.in1) (I.ok.hd hc) _ l (Nat.ne_of_lt hlt) its.toArray,
    ⟨⟨_, Heap.get?_push_size _ rfl, rfl, rfl⟩, pl.isList.push _⟩, fun i v s' Q' E' hP hQ => ?_, fun h' tk hk => ?_⟩
  · obtain ⟨b, e, rfl⟩ := bools_get rv (i := i) (v := v) (by simpa using hP)
    simp only [e, Option.getD_some] at hQ
    exact wpAny_truthy_bool hQ
  · rw [List.size_toArray, ← hlen, range_allB]
    refine ⟨.bl _, H, I.kept (t' := tk) fun b o e => hk b o (fun hm => ?_) (Heap.get?_push_of_some _ e), rfl, q⟩
    rw [List.mem_singleton.mp hm] at e
    exact Nat.lt_irrefl _ (Heap.lt_size e)
end
section
variable {K : PySem.W.Frag}
noncomputable def asBs : List D → Option (List Bool)
  | [] => some []
  | .bool b :: r => (asBs r).map (b :: ·)
  | _ => none
theorem asBs_ok {O : Own} {H : Hp} : ∀ {xs : List V} {ds : List D} {bs : List Bool}, DVs O K H xs ds → asBs ds = some bs → xs = bs.map V.bl
  | _, _, _, .nil, e => by cases e; rfl
  | _, _, bs, .cons (vs := vs) (ds := r) h t, e => by
    cases h with
    | bl b =>
      have e' : (asBs r).map (b :: ·) = some bs := e
      cases q : asBs r with
      | none => rw [q] at e'; cases e'
      | some bs' =>
        rw [q] at e'
        cases e'
        rw [asBs_ok t q]
        rfl
    | _ => cases e
noncomputable def allD : List D → Option RV
  | [.list ds] => (asBs ds).map fun bs => .fz (.bool (bs.all id))
  | _ => none
theorem cb_all : CbP K (fun xs H Q => ∃ (p : Addr) (bs : List Bool), xs = [.ref p] ∧ SqL K H p (bs.map V.bl) ∧ Q (.bl (bs.all id)) H) allD := by
  intro O H xs ds rv Q n hp e q
  unfold allD at e
  split at e
  · rename_i es
    cases qs : asBs es with
    | none => rw [qs] at e; cases e
    | some bs =>
      rw [qs] at e
      cases e
      cases hp with
      | cons h1 h2 =>
        cases h2
        obtain ⟨a, ys, rfl, h1, h2⟩ := DXl h1
        have := asBs_ok h2 qs
        subst this
        exact ⟨a, bs, rfl, h1.sq, q.at (.bl _)⟩
  · cases e
noncomputable def asIs : List D → Option (List Int)
  | [] => some []
  | .int b :: r => (asIs r).map (b :: ·)
  | _ => none
theorem asIs_ok {O : Own} {H : Hp} : ∀ {xs : List V} {ds : List D} {bs : List Int}, DVs O K H xs ds → asIs ds = some bs → xs = bs.map V.int
  | _, _, _, .nil, e => by cases e; rfl
  | _, _, bs, .cons (vs := vs) (ds := r) h t, e => by
    cases h with
    | int b =>
      have e' : (asIs r).map (b :: ·) = some bs := e
      cases q : asIs r with
      | none => rw [q] at e'; cases e'
      | some bs' =>
        rw [q] at e'
        cases e'
        rw [asIs_ok t q]
        rfl
    | _ => cases e
noncomputable def insI (x : Int) : List Int → List Int
  | [] => [x]
  | y :: r => if x ≤ y then x :: y :: r else y :: insI x r
noncomputable def sortI : List Int → List Int
  | [] => []
  | x :: r => insI x (sortI r)
theorem insI_perm (x : Int) : ∀ l, (insI x l).Perm (x :: l)
  | [] => List.Perm.refl _
  | y :: r => by
    unfold insI
    split
    · exact List.Perm.refl _
    · exact ((insI_perm x r).cons y).trans (List.Perm.swap x y r)
theorem sortI_perm : ∀ l, (sortI l).Perm l
  | [] => List.Perm.refl _
  | x :: r => (insI_perm x _).trans ((sortI_perm r).cons x)
theorem insI_sorted (x : Int) : ∀ l : List Int, l.Pairwise (· ≤ ·) → (insI x l).Pairwise (· ≤ ·)
  | [], _ => by simp [insI]
  | y :: r, h => by
    unfold insI
    obtain ⟨h1, h2⟩ := List.pairwise_cons.mp h
    split
    · rename_i hxy
      refine List.pairwise_cons.mpr ⟨fun z hz => ?_, h⟩
      rcases List.mem_cons.mp hz with e | e
      · rw [e]; exact hxy
      · have := h1 z e; omega
    · rename_i hxy
      refine List.pairwise_cons.mpr ⟨fun z hz => ?_, insI_sorted x r h2⟩
      rcases List.mem_cons.mp ((insI_perm x r).mem_iff.mp hz) with e | e
      · rw [e]; omega
      · exact h1 z e
theorem sortI_sorted : ∀ l, (sortI l).Pairwise (· ≤ ·)
  | [] => List.Pairwise.nil
  | x :: r => insI_sorted x _ (sortI_sorted r)
theorem sorted_eq {l m : List Int} (hp : l.Perm m) (hl : l.Pairwise (· ≤ ·)) (hm : m.Pairwise (· ≤ ·)) : l = m := hp.eq_of_pairwise (fun a b _ _ h1 h2 => Int.le_antisymm h1 h2) hl hm
noncomputable def sortedD : List D → Option RV
  | [.list ds] => (match asIs ds with
    | some ns => if ns.length < 64 then some (.ow ((sortI ns).map .int)) else none
    | none => none)
  | _ => none
theorem dvs_ints {O : Own} {H : Hp} (ns : List Int) : DVs O K H (ns.map V.int) (ns.map .int) := by
  induction ns with
  | nil => exact .nil
  | cons n r ih => exact .cons (.int n) ih
theorem cb_sorted : CbP K (fun xs H Q => ∃ (p : Addr) (ns : List Int), xs = [.ref p] ∧ SqL K H p (ns.map V.int) ∧ ns.length < 64 ∧ ∀ (l : Addr) (ms : List Int), H l = none → ms.Perm ns → ms.Pairwise (· ≤ ·) → Q (.ref l) (upd H l (.lst (ms.map V.int)))) sortedD := by
  intro O H xs ds rv Q n hp e q
  unfold sortedD at e
  split at e
  · rename_i es
    cases qs : asIs es with
    | none => rw [qs] at e; cases e
    | some ns =>
      rw [qs] at e
      dsimp only at e
      split at e
      · rename_i hl
        cases e
        cases hp with
        | cons h1 h2 =>
          cases h2
          obtain ⟨a, ys, rfl, h1, h2⟩ := DXl h1
          have := asIs_ok h2 qs
          subst this
          refine ⟨a, ns, rfl, h1.sq, hl, fun l ms hl hp hs => ?_⟩
          have em : ms = sortI ns := sorted_eq (hp.trans (sortI_perm ns).symm) hs (sortI_sorted ns)
          subst em
          exact Fin.new (dvs_ints _) q l hl
      · cases e
  · cases e
end
end L3
namespace L3
open PySem PySem.Spec PyProof.Rows L2
noncomputable def TyA (K : PySem.W.Frag) (H : Hp) (x : V) (t : String) : Prop := match x with
  | .non => t = "NoneType"
  | .bl _ => t = "bool"
  | .int _ => t = "int"
  | .str _ => t = "str"
  | .ref a => (t = "list" ∧ ∃ xs, SqL K H a xs) ∨ (t = "tuple" ∧ ∃ xs, SqT K H a xs)
  | _ => False
noncomputable def rIsiA (K : PySem.W.Frag) : List V → Hp → VK → Prop := fun xs H Q => ∃ x n t b, xs = [x, .ty n] ∧ TyA K H x t ∧ PySem.W.kitOne K (.type t) (.type n) = some b ∧ Q (.bl b) H
theorem call_isiA {X : Cx} : CallR X (.builtin "isinstance") (rIsiA X.K) := by
  intro pins s σ H xs us Q I r h
  obtain ⟨x, n, t, b, rfl, ty, e, q⟩ := h
  obtain ⟨u, w', rfl, rx, rn⟩ := vals2 r
  obtain rfl : w' = Value.type n := rn
  have fin : ∀ tk, EP X pins σ Q (.bool b) { s with toks := tk } := fun tk => ⟨.bl b, H, I.tok tk, rfl, q⟩
  cases x with
  | non => cases (show t = "NoneType" from ty); cases (show u = Value.none from rx); exact PySem.W.kia_one PySem.W.kitx_none I.kIn True.intro e (fun z => nomatch z) fin
  | bl y => cases (show t = "bool" from ty); cases (show u = Value.bool y from rx); exact PySem.W.kia_one PySem.W.kitx_bool I.kIn True.intro e (fun z => nomatch z) fin
  | int i => cases (show t = "int" from ty); obtain ⟨t, q⟩ := (show ∃ t, u = Value.int i t from rx); cases q; exact PySem.W.kia_one PySem.W.kitx_int I.kIn True.intro e (fun z => nomatch z) fin
  | str y => cases (show t = "str" from ty); obtain ⟨t, q⟩ := (show ∃ t, u = Value.str y t from rx); cases q; exact PySem.W.kia_one PySem.W.kitx_str I.kIn True.intro e (fun z => nomatch z) fin
  | ref a =>
    cases (show u = Value.ref a from rx)
    rcases ty with ⟨rfl, xs, h⟩ | ⟨rfl, xs, h⟩
    · obtain ⟨its, r, ⟨o, k, h1, h2, _⟩, _⟩ := I.list h
      exact PySem.W.kia_one PySem.W.kitx_list I.kIn ⟨_, h1, h2⟩ e (fun z => nomatch z) fin
    · obtain ⟨its, r, ⟨o, h1, h2, _⟩, _⟩ := I.tuple h
      exact PySem.W.kia_one PySem.W.kitx_tuple I.kIn ⟨o, h1, h2⟩ e (fun z => nomatch z) fin
  | _ => exact (show False from ty).elim
section
variable {K : PySem.W.Frag} {E : XK} {B O O' : Own} {H0 H H' : Hp} {σ : L2.St} {ρ ρ' : PEnv} {v : V}
noncomputable def tyOf : D → Option String
  | .none => some "NoneType"
  | .bool _ => some "bool"
  | .int _ => some "int"
  | .str _ => some "str"
  | .list _ => some "list"
  | .tuple _ => some "tuple"
  | .dict _ => none
noncomputable def isiT (n t : String) : Bool := n == t || (n == "int" && t == "bool")
theorem kit_all {n t : String} (hn : n = "int" ∨ n = "bool" ∨ n = "str" ∨ n = "list" ∨ n = "tuple") {d : D} (ht : tyOf d = some t) : PySem.W.kitOne K (.type t) (.type n) = some (isiT n t) := by
  cases d <;> (cases ht; try (rcases hn with rfl | rfl | rfl | rfl | rfl <;> rfl))
theorem ty_ok {x : V} {d : D} {t : String} (h : DX O K H x d) (e : tyOf d = some t) : TyA K H x t := by
  cases d with
  | none => cases e; cases h; rfl
  | bool b => cases e; cases h; rfl
  | int b => cases e; cases h; rfl
  | str b => cases e; cases h; rfl
  | dict b => cases e
  | list ds => cases e; obtain ⟨a, xs, rfl, h1, _⟩ := DXl h; exact .inl ⟨rfl, xs, h1.sq⟩
  | tuple ds => cases e; obtain ⟨a, xs, rfl, h1, _⟩ := DXt h; exact .inr ⟨rfl, xs, h1.1⟩
noncomputable def pIsi (n : String) (fa : FE) : FE := fun ρ => (fa ρ).bind fun a => (Res.ofO (rdD a.2 a.1)).bind fun d => (Res.ofO (tyOf d)).bind fun t => .ok (.fz (.bool (isiT n t)), a.2)
theorem eo_isi {n : String} {ta : TE} {fa : FE} (hn : n = "int" ∨ n = "bool" ∨ n = "str" ∨ n = "list" ∨ n = "tuple") (ha : EO K E ta fa) : EO K E (tCB (rIsiA K) (tCons ta (tCons (tC (.ty n)) tNil))) (pIsi n fa) := by
  intro B H0 O σ H ρ Q R w
  refine ha B H0 O σ H ρ _ R (w.bind.imp fun a w1 O1 x H1 e1 R1 p1 => ?_)
  obtain ⟨d, q, w1⟩ := w1.ofO
  obtain ⟨t, qt, w1⟩ := w1.ofO
  exact ⟨x, n, t, isiT n t, rfl, ty_ok (rd_ok R1 p1 q) qt, kit_all hn qt, w1 O1 _ H1 e1 R1 (.bl _)⟩
end
section
variable {K : PySem.W.Frag}
end
theorem law_callX {P : Program} {w : World} {K : PySem.W.Frag} {mg mb : Str → Option Value} {k : Nat} {fa a : Addr} {fd : FuncData} {x : Str} {F : FN} {s₁ : Shared} {vs : List Value} {ns : List Int}
    (KX : K.In s₁.heap) (hns : s₁.heap.Ns mainGlobals mg) (hb : s₁.heap.Ns builtinsNs mb) (hbb : ∀ x : Str, x ≠ "__name__" → mb x = bootBuiltins x) (hlim : s₁.heap.NoLimit) (hg : s₁.gens = #[])
    (ha : s₁.heap.get? a = some { cls := .type "list", data := .seq vs.toArray }) (hi : IntsAre vs ns) (hl : ns.length ≤ sizeLine) (hr : Room k callerA)
    (FF : ∀ base : Heap, K.In base → base.Ns mainGlobals mg → FnOk P w K mg base CX0 k fa fd [x] (spP K 1 F)) (hbind : ∀ (s : Shared) (u : Value), BindsTo s fd ⟨[u], []⟩ [(x, u)])
    (hF : F [.list (ns.map .int)] = .ok (.fz (.bool true))) :
    codeAny (model P w) callerA (.call (.ref fa) ⟨[.ref a], []⟩) (fun r s' => r = .ok (.ret (.bool true)) ∧ OldK s₁.heap s'.heap ∧ s'.os = s₁.os ∧ AllBare s'.gens) s₁ := by
  refine law_call (sp := fun vs H Q E => spP K 1 F vs H Q E ∨ (vs.length = 1 ∧ False)) KX hns hb hbb hlim hg ha hi hl hr (fun base k1 k2 => (FF base k1 k2).imp fun vs H Q E h => ?_) hbind (fun H hO hS => ?_) fun _ _ _ h => h
  · rcases h with h | h
    · exact h
    · exact h.2.elim
  · refine .inl ⟨rfl, noO, [.list (ns.map .int)], fun a z => z.elim, .cons (.lst ⟨?_, fun z => z.elim⟩ (dvs_ints ns)) .nil, ?_⟩
    · rcases hS with h | ⟨o, its, n, h1, h2, h3, h4, h5, h6⟩
      · exact .inl h
      · have e := KX a o h1
        rw [ha] at e
        cases e
        cases h4
        exact .inr ⟨vs, 0, h1, by rw [List.length_map]; exact hl, by simpa using h6⟩
    · rw [hF]
      exact fun v H' s dv => by cases dv; rfl
theorem walkX {l : PySem.W.OpenLaw} {n k : Nat} {q : Program} {loose : List Str} {XP : (Str → Option Value) → Heap → Prop} {YP : World → Heap → Prop} {d : DefRec} {K : Params → PySem.W.Frag} {F : FN} {x : Str}
    (hn : l.most = some n) (hn2 : n ≤ sizeLine) (hdf : d.params.defaults = []) (hr : Room k callerA)
    (hY : ∀ (w : World) (h : Heap), YP w h → (K w.params).In h)
    (FF : ∀ (w : World) (mg : Str → Option Value) (fa : Addr) (h : Heap), (K w.params).In h → h.Ns mainGlobals mg → mg d.name = some (.ref fa) →
      ∃ fd : FuncData, (∀ (s : Shared) (u : Value), BindsTo s fd ⟨[u], []⟩ [(x, u)]) ∧ ∀ base : Heap, (K w.params).In base → base.Ns mainGlobals mg → FnOk l.prog w (K w.params) mg base CX0 k fa fd [x] (spP (K w.params) 1 F))
    (hF : ∀ ns : List Int, ns.length ≤ n → F [.list (ns.map .int)] = .ok (.fz (.bool true))) :
    PySem.W.WalkO q loose XP YP l.row.toRowW d [] (fun f vs => PySem.call f vs) := by
  refine Att.attach_call hn hdf fun w s₀ s₁ mg mb fa o pm cd doc a vs ns G Y ho hd hcd hmg hobj hints hlen hg => ?_
  have KX := hY w _ Y
  obtain ⟨fd, hb, hFF⟩ := FF w mg fa _ KX G.T.g hmg
  exact law_callX KX G.T.g G.T.b G.T.builtins G.T.nolimit hg hobj hints (Nat.le_trans hlen hn2) hr hFF hb (hF ns hlen)
theorem okF {P : Program} {w : World} {K : PySem.W.Frag} {mg : Str → Option Value} {base : Heap} {x qual : Str} {st : Stmt} {f : Addr} {fd : FuncData} {N ps : List Str} {k n m : Nat} {g : FS} {FF : FN} (F : Fun K x qual st f fd) (S : FnScope N ps (defScope st)) (hn : ps.length = n) (hm : N.length = m) (hF : FF = runF m g)
    (hbody : ∀ (cdv : Value) (A : Around) (outer : List Env) (s : Shared) (H : Hp) (E : XK), Room k (A.deeper (PyProof.Rows.envOfC qual (defScope st) s.heap.objs.size f cdv)) →
      ∃ t, PSs (cxOf CX0 P w K mg base N qual (defScope st) f cdv A outer s H E).nox (defBody st) t ∧ SO K E t g) : FnOk P w K mg base CX0 (k + 1) f fd ps (spP K n FF) := by
  subst hF hm
  exact okP F S hn hbody
noncomputable abbrev CalP (P : Program) (w : World) (K : PySem.W.Frag) (mg : Str → Option Value) (base : Heap) (k : Nat) (x : Str) (ps : List Str) (n : Nat) (F : FN) : Prop := CalOk P w K mg base k x ps (spP K n F)
end L3
namespace L3
open PySem L2
noncomputable abbrev nd (n : Nat) : D := .int (n : Int)
noncomputable def nds (ns : List Nat) : List D := ns.map nd
theorem nds_len (ns : List Nat) : (nds ns).length = ns.length := by unfold nds; rw [List.length_map]
theorem nds_get {ns : List Nat} {i : Nat} {d : D} (h : (nds ns)[i]? = some d) : ∃ n, ns[i]? = some n ∧ d = nd n := by
  unfold nds at h
  rw [List.getElem?_map] at h
  cases e : ns[i]? with
  | none => rw [e] at h; cases h
  | some n => rw [e] at h; exact ⟨n, rfl, (Option.some.inj h).symm⟩
theorem ofO_some {α : Type} (a : α) : Res.ofO (some a) = .ok a := rfl
theorem noEr_okk {α : Type} (a : α) : noEr (Res.ok a) = .ok a := rfl
theorem var_eq (i : Nat) (ρ : PEnv) : pVar i ρ = pVarS ρ i ρ[i]? := rfl
theorem var_fz (ρ : PEnv) (i : Nat) (d : D) : pVarS ρ i (some (some (.fz d))) = .ok (.fz d, ρ) := rfl
theorem var_ow (ρ : PEnv) (i : Nat) (ds : List D) : pVarS ρ i (some (some (.ow ds))) = .ok (.pl i, ρ) := rfl
theorem asOw_some (ds : List D) : asOw (some (some (.ow ds))) = some ds := rfl
theorem asI_int (i : Int) : asI (.int i) = some i := rfl
theorem asB_bool (b : Bool) : asB (.bool b) = some b := rfl
theorem tr_ltt (i j : Int) : ltD (.int i) (.int j) = some (.fz (.bool (decide (i < j)))) := rfl
theorem tr_le (i j : Int) : leD (.int i) (.int j) = some (.fz (.bool (decide (i ≤ j)))) := rfl
theorem tr_gt (i j : Int) : gtD (.int i) (.int j) = some (.fz (.bool (decide (j < i)))) := rfl
theorem tr_ge (i j : Int) : geD (.int i) (.int j) = some (.fz (.bool (decide (j ≤ i)))) := rfl
theorem tr_add (i j : Int) : addD (.int i) (.int j) = some (.fz (.int (i + j))) := rfl
theorem tr_sub (i j : Int) : subD (.int i) (.int j) = some (.fz (.int (i - j))) := rfl
theorem tr_mod {i j : Int} (h : 0 < j) : modD (.int i) (.int j) = some (.fz (.int (i % j))) := by
  show (if posC i j = true then _ else _) = _
  rw [if_pos (show posC i j = true from decide_eq_true h)]
theorem tr_div {i j : Int} (h : 0 < j ∧ j < 2 ^ 128) : divD (.int i) (.int j) = some (.fz (.int (i / j))) := by
  show (if divC i j = true then _ else _) = _
  rw [if_pos (show divC i j = true from decide_eq_true h)]
theorem tr_mulL {i j : Int} (h : -(2 ^ 64) < i ∧ i < 2 ^ 64) : mulD (.int i) (.int j) = some (.fz (.int (i * j))) := by
  show (if (small64 i || small64 j) = true then _ else _) = _
  rw [if_pos (by rw [show small64 i = true from decide_eq_true h, Bool.true_or])]
theorem tr_mulR {i j : Int} (h : -(2 ^ 64) < j ∧ j < 2 ^ 64) : mulD (.int i) (.int j) = some (.fz (.int (i * j))) := by
  show (if (small64 i || small64 j) = true then _ else _) = _
  rw [if_pos (by rw [show small64 j = true from decide_eq_true h, Bool.or_true])]
theorem rng1_ok {j : Int} (h : small62 j) : rng1 [.int j] = some (intsFrom 0 j.toNat) := by
  show (if small62 j then _ else _) = _
  rw [if_pos h]
theorem from_nds (n : Nat) : intsFrom 0 n = nds (List.range n) := by
  unfold intsFrom nds
  apply List.map_congr_left
  intro k _
  rw [Int.zero_add]
theorem rng1_nd {n : Nat} (h : n ≤ 1000000) : rng1 [nd n] = some (nds (List.range n)) := by
  rw [rng1_ok (by unfold small62; omega), from_nds, Int.toNat_natCast]
theorem seq_nx {f g : FS} {ρ ρ1 : PEnv} (h : f ρ = .ok (.nx ρ1)) : sSeq f g ρ = g ρ1 := by unfold sSeq; rw [h]; rfl
theorem seq_rt {f g : FS} {ρ : PEnv} {rv : RV} (h : f ρ = .ok (.rt rv)) : sSeq f g ρ = .ok (.rt rv) := by unfold sSeq; rw [h]; rfl
theorem if_t {c : FT} {f g : FS} {ρ ρ1 : PEnv} (h : c ρ = .ok (true, ρ1)) : sIf c f g ρ = f ρ1 := by unfold sIf; rw [h]; rfl
theorem if_f {c : FT} {f g : FS} {ρ ρ1 : PEnv} (h : c ρ = .ok (false, ρ1)) : sIf c f g ρ = g ρ1 := by unfold sIf; rw [h]; rfl
theorem for_of {fi : FI} {gt : FG} {b : FS} {ρ ρ1 : PEnv} {ds : List D} (h : fi ρ = .ok (ds, ρ1)) : sFor fi gt b ρ = forP gt b ds ρ1 := by unfold sFor; rw [h]; rfl
theorem run_of {N : Nat} {g : FS} {ds : List D} {rv : RV} {ρ : PEnv} (hρ : ds.map (fun d => some (.fz d)) ++ List.replicate (N - ds.length) none = ρ) (h : g ρ = .ok (.rt rv)) : runF N g ds = .ok rv := by unfold runF; rw [hρ, h]; rfl
theorem tr_pow {i : Int} {j : Nat} (h : j ≤ 1000000 ∧ i.natAbs < 2 ^ 64) : powD (.int i) (nd j) = some (.fz (.int (i ^ j))) := by
  show (if powC i (j : Int) = true then some (RV.fz (.int (i ^ ((j : Nat) : Int).toNat))) else none) = _
  rw [if_pos (by unfold powC; exact decide_eq_true ⟨by omega, by omega, h.2⟩), Int.toNat_natCast]
theorem pow18 : powD (.int 10) (.int 18) = some (.fz (.int (10 ^ 18))) := tr_pow (j := 18) ⟨by decide, by decide⟩
noncomputable def compT (gt : FG) (ft : FT) (fe : FE) (d : D) (ρ : PEnv) : Res (Option D × PEnv) := (gt (.fz d) ρ).bind fun ρ1 => (ft ρ1).bind fun b => if b.1 = true then (fe b.2).bind fun a => (Res.ofO (toD a.2 a.1)).bind fun x => .ok (some x.1, forget x.2) else .ok (none, forget b.2)
theorem compP_step {gt : FG} {ft : FT} {fe : FE} {d : D} {r : List D} {ρ ρ' : PEnv} {acc : List D} {o : Option D} (h : compT gt ft fe d ρ = .ok (o, ρ')) (hl : acc.length < 1000000) : compP gt ft fe (d :: r) ρ acc = compP gt ft fe r ρ' (acc ++ o.toList) := by
  unfold compT at h
  show (gt (.fz d) ρ).bind _ = _
  cases q1 : gt (.fz d) ρ with
  | er x => rw [q1] at h; cases h
  | bad => rw [q1] at h; cases h
  | ok ρ1 =>
    rw [q1, Res.bind_ok] at h
    rw [Res.bind_ok]
    cases q2 : ft ρ1 with
    | er x => rw [q2] at h; cases h
    | bad => rw [q2] at h; cases h
    | ok b =>
      obtain ⟨b, ρ2⟩ := b
      rw [q2, Res.bind_ok] at h
      rw [Res.bind_ok]
      cases b with
      | false =>
        rw [if_neg Bool.false_ne_true] at h ⊢
        cases h
        rw [Option.toList_none, List.append_nil]
      | true =>
        rw [if_pos rfl] at h ⊢
        cases q3 : fe ρ2 with
        | er x => rw [q3] at h; cases h
        | bad => rw [q3] at h; cases h
        | ok a =>
          rw [q3, Res.bind_ok] at h
          rw [Res.bind_ok]
          cases q4 : toD a.2 a.1 with
          | none => rw [q4] at h; cases h
          | some x =>
            rw [q4] at h
            cases h
            show (if acc.length < 1000000 then _ else _) = _
            rw [if_pos hl]
            rfl
theorem dec_nd (a b : Nat) : decide ((a : Int) = (b : Int)) = decide (a = b) := by
  by_cases h : a = b
  · rw [decide_eq_true h, decide_eq_true (by rw [h])]
  · rw [decide_eq_false h, decide_eq_false (by omega)]
theorem eqv_nd (a b : Nat) : PyData.eqv (nd a) (nd b) = decide (a = b) := dec_nd a b
theorem eqD_int (a b : Int) : eqD (.int a) (.int b) = some (.fz (.bool (decide (a = b)))) := by
  rfl
theorem eqD_nd (a b : Nat) : eqD (nd a) (nd b) = some (.fz (.bool (decide (a = b)))) := by
  rw [eqD_int, dec_nd]
theorem lay_nds : ∀ ns : List Nat, PyData.canLayAll0 (nds ns) = true
  | [] => rfl
  | n :: r => by
    show (PyData.canLay0 (nd n) && PyData.canLayAll0 (nds r)) = true
    rw [lay_nds r]; rfl
theorem dep_nds : ∀ ns : List Nat, PyData.depthAll (nds ns) = 0
  | [] => rfl
  | n :: r => by
    show max (PyData.depth (nd n)) (PyData.depthAll (nds r)) = 0
    rw [dep_nds r]; rfl
theorem eqv_nds : ∀ xs ys : List Nat, PyData.eqvAll (nds xs) (nds ys) = decide (xs = ys)
  | [], [] => rfl
  | [], _ :: _ => rfl
  | _ :: _, [] => rfl
  | n :: r, m :: t => by
    show (PyData.eqv (nd n) (nd m) && PyData.eqvAll (nds r) (nds t)) = _
    rw [eqv_nds r t, eqv_nd]
    rw [Bool.eq_iff_iff]
    simp
theorem ok_tup (ns : List Nat) : okD (.tuple (nds ns)) = true := by
  show (PyData.canLayAll0 (nds ns) && decide (PyData.depthAll (nds ns) + 1 ≤ 64)) = true
  rw [lay_nds, dep_nds]; rfl
theorem eqD_tup (xs ys : List Nat) : eqD (.tuple (nds xs)) (.tuple (nds ys)) = some (.fz (.bool (decide (xs = ys)))) := by
  unfold eqD
  rw [ok_tup, show PyData.canLay0 (.tuple (nds ys)) = true from lay_nds ys, Bool.and_self, if_pos rfl, show PyData.eqv (.tuple (nds xs)) (.tuple (nds ys)) = _ from eqv_nds xs ys]
theorem atI_nd {α : Type} {xs : List α} {i : Nat} {v : α} (h : xs[i]? = some v) : atI xs (i : Int) = some v := atI_nat h
theorem ixT {ds : List D} {i : Nat} {d : D} (h : ds[i]? = some d) : ixD (.tuple ds) (nd i) = some (.fz d) := by
  show (atI ds (i : Int)).map RV.fz = _
  rw [atI_nd h]; rfl
theorem ixL {ds : List D} {i : Nat} {d : D} (h : ds[i]? = some d) : ixD (.list ds) (nd i) = some (.fz d) := by
  show (atI ds (i : Int)).map RV.fz = _
  rw [atI_nd h]; rfl
end L3
namespace L3
open PySem L2
section
variable {ρ ρ1 ρ2 ρ3 : PEnv} {fa fb fc fe : FE} {pa pb pv : PV} {dx dy d : D} {rv : RV} {ps : List PV} {ds : List D}
theorem ev_var {i : Nat} (h : ρ[i]? = some (some (.fz d))) : pVar i ρ = .ok (.fz d, ρ) := by rw [var_eq, h, var_fz]
theorem ev_own {i : Nat} (h : ρ[i]? = some (some (.ow ds))) : pVar i ρ = .ok (.pl i, ρ) := by rw [var_eq, h, var_ow]
theorem ev_c : pC d ρ = .ok (.fz d, ρ) := rfl
theorem ev_op {f : D → D → Option RV} (ha : fa ρ = .ok (pa, ρ1)) (hb : fb ρ1 = .ok (pb, ρ2)) (hx : rdD ρ2 (settle pa) = some dx) (hy : rdD ρ2 pb = some dy) (hf : f dx dy = some rv) : pOp f fa fb ρ = .ok (rv.pv, ρ2) := by
  unfold pOp
  rw [ha, Res.bind_ok, hb, Res.bind_ok, hx, ofO_some, Res.bind_ok, hy, ofO_some, Res.bind_ok, hf, ofO_some, Res.bind_ok]
theorem ev_un {f : D → Option RV} (ha : fa ρ = .ok (pa, ρ1)) (hx : rdD ρ1 pa = some dx) (hf : f dx = some rv) : pUn f fa ρ = .ok (rv.pv, ρ1) := by
  unfold pUn
  rw [ha, Res.bind_ok, hx, ofO_some, Res.bind_ok, hf, ofO_some, Res.bind_ok]
theorem ev_bool {b : Bool} (ha : fa ρ = .ok (pa, ρ1)) (hx : rdD ρ1 pa = some (.bool b)) : pBool fa ρ = .ok (b, ρ1) := by
  unfold pBool
  rw [ha, Res.bind_ok, hx, ofO_some, Res.bind_ok, asB_bool, ofO_some, Res.bind_ok]
theorem ev_qand {f g : FT} {a b : Bool} (ha : f ρ = .ok (a, ρ1)) (hb : a = true → g ρ1 = .ok (b, ρ1)) : qAnd f g ρ = .ok (a && b, ρ1) := by
  unfold qAnd
  rw [ha, Res.bind_ok]
  cases a with
  | true => rw [if_pos rfl, hb rfl, Bool.true_and]
  | false => rw [if_neg Bool.false_ne_true, Bool.false_and]
theorem ev_qor {f g : FT} {a b : Bool} (ha : f ρ = .ok (a, ρ1)) (hb : a = false → g ρ1 = .ok (b, ρ1)) : qOr f g ρ = .ok (a || b, ρ1) := by
  unfold qOr
  rw [ha, Res.bind_ok]
  cases a with
  | true => rw [if_pos rfl, Bool.true_or]
  | false => rw [if_neg Bool.false_ne_true, hb rfl, Bool.false_or]
theorem ev_qnot {f : FT} {a : Bool} (ha : f ρ = .ok (a, ρ1)) : qNot f ρ = .ok (!a, ρ1) := by
  unfold qNot
  rw [ha, Res.bind_ok]
theorem ev_pand {a b : Bool} (ha : pBool fa ρ = .ok (a, ρ1)) (hb : a = true → fb ρ1 = .ok (.fz (.bool b), ρ1)) : pAnd fa fb ρ = .ok (.fz (.bool (a && b)), ρ1) := by
  unfold pAnd
  rw [ha, Res.bind_ok]
  cases a with
  | true => rw [if_pos rfl, hb rfl, Bool.true_and]
  | false => rw [if_neg Bool.false_ne_true, Bool.false_and]
theorem ev_nil : aNil ρ = .ok ([], ρ) := rfl
theorem ev_cons {fr : FA} (ha : fa ρ = .ok (pa, ρ1)) (hr : fr ρ1 = .ok (ps, ρ2)) : aCons fa fr ρ = .ok (settle pa :: ps, ρ2) := by
  unfold aCons
  rw [ha, Res.bind_ok, hr, Res.bind_ok]
theorem ev_cb {f : List D → Option RV} {fr : FA} (ha : fr ρ = .ok (ps, ρ1)) (hd : rdDs ρ1 ps = some ds) (hf : f ds = some rv) : pCB f fr ρ = .ok (rv.pv, ρ1) := by
  unfold pCB
  rw [ha, Res.bind_ok, hd, ofO_some, Res.bind_ok, hf, ofO_some, Res.bind_ok]
theorem ev_cal {F : FN} {n : Nat} {fr : FA} (ha : fr ρ = .ok (ps, ρ1)) (hd : toDs ρ1 ps = some (ds, ρ2)) (hn : ds.length = n) (hF : F ds = .ok rv) : pCal F n fr ρ = .ok (rv.pv, ρ2) := by
  unfold pCal
  rw [ha, Res.bind_ok, hd, ofO_some, Res.bind_ok]
  dsimp only
  rw [if_pos hn, hF, noEr_okk, Res.bind_ok]
theorem ev_tup {fr : FA} (ha : fr ρ = .ok (ps, ρ1)) (hd : toDs ρ1 ps = some (ds, ρ2)) (hn : ds.length ≤ 1000) : pTup fr ρ = .ok (.fz (.tuple ds), ρ2) := by
  unfold pTup
  rw [ha, Res.bind_ok, hd, ofO_some, Res.bind_ok]
  dsimp only
  rw [if_pos hn]
theorem ev_lst {fr : FA} (ha : fr ρ = .ok (ps, ρ1)) (hd : toDs ρ1 ps = some (ds, ρ2)) (hn : ds.length ≤ 1000) : pLst fr ρ = .ok (.ow ds, ρ2) := by
  unfold pLst
  rw [ha, Res.bind_ok, hd, ofO_some, Res.bind_ok]
  dsimp only
  rw [if_pos hn]
theorem ev_onone : oNone ρ = .ok (none, ρ) := rfl
theorem ev_osome {i : Int} (ha : fa ρ = .ok (pa, ρ1)) (hx : rdD ρ1 pa = some (.int i)) : oSome fa ρ = .ok (some i, ρ1) := by
  unfold oSome
  rw [ha, Res.bind_ok, hx, ofO_some, Res.bind_ok, asI_int, ofO_some, Res.bind_ok]
theorem ev_sl {f : D → Option Int → Option Int → Option RV} {fl fh : FO} {lo hi : Option Int} (ha : fa ρ = .ok (pa, ρ1)) (hl : fl ρ1 = .ok (lo, ρ2)) (hh : fh ρ2 = .ok (hi, ρ3)) (hx : rdD ρ3 (settle pa) = some dx) (hf : f dx lo hi = some rv) : pSl f fa fl fh ρ = .ok (rv.pv, ρ3) := by
  unfold pSl
  rw [ha, Res.bind_ok, hl, Res.bind_ok, hh, Res.bind_ok, hx, ofO_some, Res.bind_ok, hf, ofO_some, Res.bind_ok]
theorem ev_app {i : Nat} {es : List D} {x : PEnv} (h0 : ρ[i]? = some (some (.ow es))) (ha : fe ρ = .ok (pa, ρ1)) (ht : toD ρ1 pa = some (d, ρ2)) (h1 : ρ2[i]? = some (some (.ow ds))) (hl : ds.length < 1000000) (hx : ρ2.set i (some (.ow (ds ++ [d]))) = x) : pApp i fe ρ = .ok (.fz .none, x) := by
  unfold pApp
  rw [h0, asOw_some, ofO_some, Res.bind_ok, ha, Res.bind_ok, ht, ofO_some, Res.bind_ok]
  dsimp only
  rw [h1, asOw_some, ofO_some, Res.bind_ok, if_pos hl, hx]
theorem ev_comp {n : Nat} {fv : List Nat} {fi : FI} {gt : FG} {ft : FT} {cs xs : List D} (hi : fi ρ = .ok (ds, ρ1)) (hc : captL ρ1 fv = some (cs, ρ2)) (hp : noEr (compP gt ft fe ds (List.replicate n none ++ cs.map fun d => some (.fz d)) []) = .ok xs) : pComp n fv fi gt ft fe ρ = .ok (.ow xs, ρ2) := by
  unfold pComp
  rw [hi, Res.bind_ok]
  dsimp only
  rw [hc, ofO_some, Res.bind_ok]
  dsimp only
  rw [hp, Res.bind_ok]
theorem ixt0 {a : D} {r : List D} : ixD (.tuple (a :: r)) (.int 0) = some (.fz a) := ixT (i := 0) rfl
theorem ixt1 {a b : D} {r : List D} : ixD (.tuple (a :: b :: r)) (.int 1) = some (.fz b) := ixT (i := 1) rfl
theorem ixl0 {a : D} {r : List D} : ixD (.list (a :: r)) (.int 0) = some (.fz a) := ixL (i := 0) rfl
theorem ev_iseq {es : List D} (ha : fe ρ = .ok (pa, ρ1)) (ht : toD ρ1 pa = some (d, ρ2)) (hs : asSeq d = some es) : iSeq fe ρ = .ok (es, ρ2) := by
  unfold iSeq
  rw [ha, Res.bind_ok, ht, ofO_some, Res.bind_ok]
  dsimp only
  rw [hs, ofO_some, Res.bind_ok]
theorem ev_irng {f : List D → Option (List D)} {fr : FA} {es : List D} (ha : fr ρ = .ok (ps, ρ1)) (hd : rdDs ρ1 ps = some ds) (hf : f ds = some es) : iRng f fr ρ = .ok (es, ρ1) := by
  unfold iRng
  rw [ha, Res.bind_ok, hd, ofO_some, Res.bind_ok, hf, ofO_some, Res.bind_ok]
theorem ev_ienum {fr : FA} {es : List D} (ha : fr ρ = .ok (ps, ρ1)) (hd : toDs ρ1 ps = some ([d], ρ2)) (hs : asSeq d = some es) : L3.iEnum fr ρ = .ok (enumFrom 0 es, ρ2) := by
  unfold L3.iEnum
  rw [ha, Res.bind_ok, hd, ofO_some, Res.bind_ok]
  dsimp only
  rw [hs, ofO_some, Res.bind_ok]
theorem st_asg {g : FG} (he : fe ρ = .ok (pv, ρ1)) (hg : g pv ρ1 = .ok ρ2) (hn : ρ2 = ρ3) : sAsg fe g ρ = .ok (.nx ρ3) := by
  unfold sAsg
  rw [he, Res.bind_ok]
  dsimp only
  rw [hg, Res.bind_ok, hn]
theorem st_drop (he : fe ρ = .ok (pv, ρ1)) : sDrop fe ρ = .ok (.nx ρ1) := by
  unfold sDrop
  rw [he, Res.bind_ok]
theorem st_ret (he : fe ρ = .ok (pv, ρ1)) (hr : retV ρ1 pv = some rv) : sRet fe ρ = .ok (.rt rv) := by
  unfold sRet
  rw [he, Res.bind_ok]
  dsimp only
  rw [hr, ofO_some, Res.bind_ok]
theorem ct_t {gt : FG} {ft : FT} {x : D} (hg : gt (.fz d) ρ = .ok ρ1) (ht : ft ρ1 = .ok (true, ρ2)) (he : fe ρ2 = .ok (pv, ρ3)) {ρ4 ρ5 : PEnv} (hx : toD ρ3 pv = some (x, ρ4)) (hf : forget ρ4 = ρ5) : compT gt ft fe d ρ = .ok (some x, ρ5) := by
  unfold compT
  rw [hg, Res.bind_ok, ht, Res.bind_ok, if_pos rfl, he, Res.bind_ok, hx, ofO_some, Res.bind_ok, hf]
end
end L3
namespace PySem
open Sem (wp)
open Builtin
open AutoSeq1 (wpAny_loadPart')
theorem noFill_tuple_mul : fillsNumberSlot (.type "tuple") "mul" = pure false :=
  fillsNumberSlot_seq (id := "tuple.__mul__") (r := some (.builtin "tuple.__rmul__")) F.slot_tuple_mul.lookup (by decide +kernel) F.slot_tuple_rmul.lookup (by decide +kernel)
theorem repeat_tuple : seqRepeat? (.type "tuple") = pure (some (.builtin "tuple.__mul__")) := by
  unfold seqRepeat?
  rw [seqSlot_of (T := "tuple") (name := "__mul__") (id := "tuple.__mul__") F.slot_tuple_mul.lookup (by decide +kernel), seqSlot_of (T := "tuple") (name := "__rmul__") (id := "tuple.__rmul__") F.slot_tuple_rmul.lookup (by decide +kernel)]
  rfl
theorem int_rmul_tuple (a : Int) (t : Tok) (l : Addr) (items : Array Value) (n : Nat) (dct : Option Addr) (sl : Array (Option Value)) :
    Meets (Builtin.«int.__rmul__» ⟨[.int a t, .ref l], []⟩) (fun _ R s => s.heap.get? l = some { cls := .type "tuple", dict := dct, data := .seq items n, slots := sl } ∧ R (.ok (.ret Value.notImplemented)) s) :=
  .of_wp fun prog w A R s h => by obtain ⟨hp, g, d, tk, os⟩ := s; obtain ⟨hl, h⟩ := h; wp_walk; exact ⟨_, rfl, h⟩
theorem tuple_mulW1 (l : Addr) (items : Array Value) (n : Nat) (dct : Option Addr) (sl : Array (Option Value)) (u : Tok) :
    Meets (Builtin.«tuple.__mul__» ⟨[.ref l, .int 1 u], []⟩) (fun _ R s => s.heap.get? l = some { cls := .type "tuple", dict := dct, data := .seq items n, slots := sl } ∧ R (.ok (.ret (Value.ref l))) s) :=
  .of_wp fun prog w A R s h => by
    obtain ⟨hp, g, d, tk, os⟩ := s; obtain ⟨hl, h⟩ := h
    wp_walk
    exact ⟨_, rfl, h⟩
theorem tuple_mulW2 (l : Addr) (items : Array Value) (n : Nat) (dct : Option Addr) (sl : Array (Option Value)) (x : Int) (u : Tok) (h1 : 2 ≤ x) (h2 : x ≤ 1000) (hne : items.isEmpty = false) (hz : items.size ≤ 1000) :
    Meets (Builtin.«tuple.__mul__» ⟨[.ref l, .int x u], []⟩) (fun _ R s => s.heap.get? l = some { cls := .type "tuple", dict := dct, data := .seq items n, slots := sl } ∧ R (.ok (.ret (Value.ref s.heap.objs.size))) { s with heap := s.heap.push { cls := Value.type "tuple", data := Data.seq (List.foldl (fun x1 x2 => x1 ++ x2) #[] (List.replicate x.toNat items)) }, toks := s.toks }) :=
  .of_wp fun prog w A R s h => by
    obtain ⟨hp, g, d, tk, os⟩ := s; obtain ⟨hl, h⟩ := h
    have c1 : ¬ (decide (x < -(2 ^ 63)) || decide (x ≥ 2 ^ 63)) = true := by simp; omega
    have c2 : (x == 1) = false := by simp; omega
    have c3 : decide (x ≤ 0) = false := by simp; omega
    have c0 : (items.isEmpty || x == 1) = false := by rw [hne, c2]; rfl
    have c4 : (decide (x ≤ 0) || items.isEmpty) = false := by rw [hne, c3]; rfl
    have hmul : (items.size : Int) * x ≤ 1000000 := by
      have : (items.size : Int) * x ≤ 1000 * 1000 := Int.mul_le_mul (by omega) h2 (by omega) (by omega)
      omega
    have c5 : ¬ (items.size : Int) * x > (2 ^ 63 - 1) / 8 := by omega
    have c6 : ¬ Tuple.tupleTooMany ((items.size : Int) * x) = true := by
      unfold Tuple.tupleTooMany
      simp
      have : (sizeLine : Nat) = 16777216 := by decide
      omega
    wp_walk
    rw [if_neg c1]
    wp_walk using wpAny_loadPart' hl
    rw [if_neg c5]
    dsimp only
    rw [if_neg c6]
    have hz2 : (List.foldl (fun x1 x2 => x1 ++ x2) #[] (List.replicate x.toNat items)).size ≤ sizeLine := by
      have f0 : ∀ (m : Nat) (b : Array Value), (List.foldl (fun x1 x2 => x1 ++ x2) b (List.replicate m items)).size = b.size + m * items.size := by
        intro m
        induction m with
        | zero => intro b; simp
        | succ m ih => intro b; rw [List.replicate_succ, List.foldl_cons, ih, Array.size_append, Nat.succ_mul]; omega
      rw [f0]
      have h3 : x.toNat * items.size ≤ 1000 * 1000 := Nat.mul_le_mul (by omega) hz
      have : (sizeLine : Nat) = 16777216 := by decide
      simp
      omega
    wp_walk
    exact ⟨_, rfl, h⟩
end PySem
namespace L3
open PySem PySem.Spec PyProof.Rows L2
noncomputable def rRepT (K : PySem.W.Frag) : R2 := fun x y H Q => ∃ (a : Addr) (k : Nat) (xs : List V), x = .ref a ∧ y = .int (k : Int) ∧ SqT K H a xs ∧ xs ≠ [] ∧ 1 ≤ k ∧ k ≤ 1000 ∧ xs.length ≤ 1000 ∧
  (k = 1 → Q (.ref a) H) ∧ (2 ≤ k → ∀ p, H p = none → Q (.ref p) (upd H p (.tup (List.replicate k xs).flatten)))
theorem op_repT {X : Cx} : OpR X (binaryOp .Mult) (rRepT X.K) := by
  intro pins s σ H x y v u Q I rx ry h
  obtain ⟨a, k, xs, rfl, rfl, hx, hne, h1, h2, hl, q1, q2⟩ := h
  cases rx
  obtain ⟨t, rfl⟩ := ry
  obtain ⟨its, r, ht, hz⟩ := I.tuple hx
  obtain ⟨⟨cls, dd, data, sl⟩, ho, hc, n, hd⟩ := id ht
  simp only at hc hd
  subst hc hd
  have hlen := r.length
  refine wpAny_binaryOp_repeat_ref (T := "tuple") (U := "int") (by decide) ⟨_, ho, rfl⟩ (fun s' => typeIs_int s' k t) noFill_tuple_mul F.fills_int_mul F.slot_int_rmul repeat_tuple F.slot_int_index.lookup
    (call_meets F.slot_int_rmul (typeIs_int s k t) F.entry_int_rmul (F.args_int_rmul_2 _ _) (int_rmul_tuple k t a its.toArray n dd sl) ⟨ho, rfl, ⟨_, ho, rfl⟩, ?_⟩)
  by_cases hk : k = 1
  · subst hk
    exact call_meets F.slot_tuple_mul ⟨_, ho, rfl⟩ F.entry_tuple_mul (F.args_tuple_mul_2 _ _) (tuple_mulW1 a its.toArray n dd sl t) ⟨ho, ⟨.ref a, H, I, rfl, q1 rfl⟩⟩
  · refine call_meets F.slot_tuple_mul ⟨_, ho, rfl⟩ F.entry_tuple_mul (F.args_tuple_mul_2 _ _) (tuple_mulW2 a its.toArray n dd sl k t (by omega) (by omega) ?_ (by rw [List.size_toArray]; omega)) ⟨ho, ?_⟩
    · cases its with
      | nil => cases r; exact absurd rfl hne
      | cons y ys => rfl
    · have f0 : List.foldl (fun x1 x2 => x1 ++ x2) #[] (List.replicate ((k : Nat) : Int).toNat its.toArray) = (List.replicate k its).flatten.toArray := by
        have := foldl_rep its k []
        rw [List.nil_append] at this
        rw [Int.toNat_natCast]
        exact this
      rw [f0]
      refine ⟨.ref s.heap.objs.size, _, I.laid (t' := s.toks) (o := .tup (List.replicate k xs).flatten) (fun b ob q => Heap.get?_push_of_some _ q) (Nat.le_refl _) ?_, rfl, q2 (by omega) _ (I.hok.fresh (Nat.le_refl _))⟩
      refine ⟨?_, _, r.rep k, IsTup.new _ _⟩
      rw [len_rep]
      exact Nat.le_trans (Nat.mul_le_mul h2 hl) (by decide)
noncomputable def rMulB (K : PySem.W.Frag) : R2 := fun x y H Q => rMulA K x y H Q ∨ rRepT K x y H Q
theorem op_mulB {X : Cx} : OpR X (binaryOp .Mult) (rMulB X.K) := OpR.or op_mulA op_repT
noncomputable def mulE : D → D → Option RV
  | .tuple xs, .int k => if xs ≠ [] ∧ 1 ≤ k ∧ k ≤ 1000 ∧ xs.length ≤ 1000 then some (.fz (.tuple (List.replicate k.toNat xs).flatten)) else none
  | d, e => mulD d e
theorem opp_mulE {K : PySem.W.Frag} : OpP K (rMulB K) mulE := by
  intro O H x y dx dy rv Q n hx hy e q
  unfold mulE at e
  split at e
  · rename_i ds k
    split at e
    · rename_i hc
      cases e
      cases hy
      obtain ⟨a, xs, rfl, h1, h2⟩ := DXt hx
      obtain ⟨m, rfl⟩ : ∃ m : Nat, k = (m : Int) := ⟨k.toNat, by omega⟩
      rw [Int.toNat_natCast] at q
      refine .inr ⟨a, m, xs, rfl, rfl, h1.1, fun z => hc.1 (h2.ne.mp z), by omega, by omega, by rw [h2.length]; exact hc.2.2.2, fun e => ?_, fun _ => Fin.newT (h2.flat m) n q⟩
      subst e
      have e1 : (List.replicate 1 ds).flatten = ds := by simp
      rw [e1] at q
      exact q.at (.tup h1 h2)
    · cases e
  · exact .inl (opp_mul O H x y dx dy rv Q n hx hy e q)
theorem mulE_int (i j : Int) : mulE (.int i) (.int j) = mulD (.int i) (.int j) := rfl
theorem trE_mulL {i j : Int} (h : -(2 ^ 64) < i ∧ i < 2 ^ 64) : mulE (.int i) (.int j) = some (.fz (.int (i * j))) := (mulE_int i j).trans (tr_mulL h)
theorem trE_mulR {i j : Int} (h : -(2 ^ 64) < j ∧ j < 2 ^ 64) : mulE (.int i) (.int j) = some (.fz (.int (i * j))) := (mulE_int i j).trans (tr_mulR h)
end L3
namespace PySem
open Sem (wp)
open Builtin Builtin.Str
noncomputable def itAt : Bool → Heap → Addr → Addr → Nat → Prop
  | true, h, it, a, i => h.IsTupleIter it a i
  | false, h, it, a, i => h.IsListIter it a i
noncomputable def sqAt : Bool → Heap → Addr → Array Value → Prop
  | true, h, a, xs => h.IsTuple a xs
  | false, h, a, xs => h.IsList a xs
noncomputable def itCls : Bool → String
  | true => "tuple_iterator"
  | false => "list_iterator"
theorem itAt.ext {b : Bool} {h h' : Heap} {it a c : Addr} {i : Nat} (x : itAt b h it a i) (e : Heap.ExtBut c h h') (n : it ≠ c) : itAt b h' it a i := by
  cases b with
  | true => exact Heap.IsTupleIter.extBut x e n
  | false => exact Heap.IsListIter.extBut x e n
theorem itAt.to {b : Bool} {h h' : Heap} {it a : Addr} {i : Nat} (x : itAt b h it a i) (e : ∀ o, h.get? it = some o → h'.get? it = some o) : itAt b h' it a i := by
  cases b with
  | true => exact Heap.IsTupleIter.at x e
  | false => exact Heap.IsListIter.at x e
theorem itAt.live {b : Bool} {h : Heap} {it a : Addr} {i : Nat} (x : itAt b h it a i) : ∃ o, h.get? it = some o ∧ ∀ v, o.data ≠ .cell v := by
  cases b with
  | true => obtain ⟨o, ho, _, d⟩ := (show h.IsTupleIter it a i from x); exact ⟨o, ho, fun v z => by rw [d] at z; cases z⟩
  | false => obtain ⟨o, ho, _, d⟩ := (show h.IsListIter it a i from x); exact ⟨o, ho, fun v z => by rw [d] at z; cases z⟩
theorem sqAt.ext {b : Bool} {h h' : Heap} {a c : Addr} {xs : Array Value} (x : sqAt b h a xs) (e : Heap.ExtBut c h h') (n : a ≠ c) : sqAt b h' a xs := by
  cases b with
  | true => exact Heap.IsTuple.extBut x e n
  | false => exact Heap.IsList.extBut x e n
theorem sqAt.psh {b : Bool} {h : Heap} {a : Addr} {xs : Array Value} (x : sqAt b h a xs) (o : Obj) : sqAt b (h.push o) a xs := by
  cases b with
  | true => exact Heap.IsTuple.push x o
  | false => exact Heap.IsList.push x o
theorem sqAt.lt {b : Bool} {h : Heap} {a : Addr} {xs : Array Value} (x : sqAt b h a xs) : a < h.objs.size := by
  cases b with
  | true => obtain ⟨o, e, _⟩ := (show h.IsTuple a xs from x); exact Heap.lt_size e
  | false => obtain ⟨o, e, _⟩ := (show h.IsList a xs from x); exact Heap.lt_size e
section
variable {prog : Program} {w : World} {A : Around} {E : Value → Shared → Prop} {s : Shared}
theorem next_it {b : Bool} {it l : Addr} {i : Nat} {xs : Array Value} {x : Value} {Q : Value → Shared → Prop} (hi : itAt b s.heap it l i) (hl : sqAt b s.heap l xs) (hx : xs[i]? = some x)
    (q : ∀ h', itAt b h' it l (i + 1) → Heap.SameBut it s.heap h' → Q x { s with heap := h' }) : wpAny (model prog w) A (SmallTypes.nextOf (.ref it)) Q E s := by
  cases b with
  | true => exact nextOf_tuple_item hi hl hx q
  | false => exact wpAny_nextOf_list_item hi hl hx q
theorem next_no {b : Bool} {it l : Addr} {i : Nat} {xs : Array Value} {Q : Value → Shared → Prop} (hh : A.handled = none) (hi : itAt b s.heap it l i) (hl : sqAt b s.heap l xs) (hx : xs[i]? = none)
    (q : ∀ h' e, Heap.ExtBut it s.heap h' → (∃ o, h'.get? e = some o ∧ o.cls = .type "StopIteration") → E (.ref e) { s with heap := h' }) : wpAny (model prog w) A (SmallTypes.nextOf (.ref it)) Q E s := by
  cases b with
  | true => exact nextOf_tuple_end hh hi hl hx q
  | false => exact wpAny_nextOf_list_end hh hi hl hx q
theorem iter_sq {b : Bool} {l : Addr} {xs : Array Value} {Q : Value → Shared → Prop} (hl : sqAt b s.heap l xs)
    (q : Q (.ref s.heap.objs.size) { s with heap := s.heap.push { cls := .type (itCls b), data := .fields #[.ref l, .int 0 0] } }) : wpAny (model prog w) A (pyIter (.ref l)) Q E s := by
  cases b with
  | true => exact wpAny_pyIter_tuple hl q
  | false => exact wpAny_pyIter_list hl q
theorem zip_item2 {z TI TO i1 i2 l1 l2 : Addr} {b1 b2 : Bool} {n : Nat} {xs ys : Array Value} {x y a b : Value} {Q : Value → Shared → Prop} (D : ZipApart z TI TO i1 i2 l1 l2) (hz : IsZip s.heap z TI TO .none)
    (hTI : IsPair s.heap TI (.ref i1) (.ref i2)) (hTO : IsPair s.heap TO a b) (h1 : itAt b1 s.heap i1 l1 n) (h2 : itAt b2 s.heap i2 l2 n) (hl1 : sqAt b1 s.heap l1 xs) (hl2 : sqAt b2 s.heap l2 ys) (hx : xs[n]? = some x) (hy : ys[n]? = some y)
    (q : ∀ h', IsZip h' z TI TO (rawInt s.heap.objs.size) → IsPair h' TO x y → itAt b1 h' i1 l1 (n + 1) → itAt b2 h' i2 l2 (n + 1) → IsPair h' s.heap.objs.size x y → h'.objs.size = s.heap.objs.size + 1 →
      (∀ c o, c ≠ z → c ≠ TO → c ≠ i1 → c ≠ i2 → s.heap.get? c = some o → h'.get? c = some o) → Q (.ref s.heap.objs.size) { s with heap := h' }) :
    wpAny (model prog w) A (Builtin.«zip.__next__» ⟨[.ref z], []⟩) (fun fin s' => ∃ v, fin = .done (.ret v) ∧ Q v s') E s := by
  show wpAny _ _ (field (.ref z) 2 >>= _) _ _ _; refine wpAny_bind (wpAny_field hz rfl (x := .bool false) rfl ?_); show wpAny _ _ (field (.ref z) 3 >>= _) _ _ _
  refine wpAny_bind (wpAny_field hz rfl (x := .ref TI) rfl ?_); refine wpAny_bind (wpAny_seqItems hTI rfl ?_); show wpAny _ _ (SmallTypes.ownedTupleIsFree (.ref z) >>= _) _ _ _
  refine wpAny_bind ?_; unfold SmallTypes.ownedTupleIsFree; refine wpAny_bind (wpAny_field hz rfl (x := .none) rfl (wpAny_pure ?_)); simp only [if_true]
  refine wpAny_bind (wpAny_rule ?_); refine wpAny_bind (wpAny_field hz rfl (x := .ref TO) rfl ?_); refine wpAny_bind (wpAny_setField_rec hz (by simp) fun k₁ hz₁ e₁ => ?_)
  have hz₁' : IsZip k₁ z TI TO .ellipsis := hz₁
  clear hz₁
  refine wpAny_bind ?_; simp only [List.zipIdx_cons, List.zipIdx_nil, List.forIn_cons, List.forIn_nil]
  refine wpAny_bind (wpAny_bind (wpAny_onRaise ?_)); show wpAny _ _ (SmallTypes.nextOf (.ref i1) >>= _) _ _ _
  refine wpAny_bind (next_it (h1.ext e₁.extBut D.i1z) (hl1.ext e₁.extBut D.l1z) hx fun k₂ g₂ e₂ => wpAny_pure ?_)
  have o₂ : IsPair k₂ TO a b := e₂.extBut _ _ D.TOi1 (e₁.extBut _ _ D.TOz hTO)
  refine wpAny_bind (wpAny_seqItems o₂ rfl ?_); refine wpAny_bind (wpAny_updateSeq_pair o₂ fun k₃ o₃ e₃ => ?_)
  have o₃' : IsPair k₃ TO x b := o₃
  clear o₃
  refine wpAny_bind (wpAny_letGo (wpAny_pure ?_)); refine wpAny_bind (wpAny_bind (wpAny_onRaise ?_)); show wpAny _ _ (SmallTypes.nextOf (.ref i2) >>= _) _ _ _
  refine wpAny_bind (next_it (((h2.ext e₁.extBut D.i2z).ext e₂.extBut D.i12.symm).ext e₃.extBut D.TOi2.symm) (((hl2.ext e₁.extBut D.l2z).ext e₂.extBut D.l2i1).ext e₃.extBut D.l2TO) hy fun k₄ g₄ e₄ => wpAny_pure ?_)
  have o₄ : IsPair k₄ TO x b := e₄.extBut _ _ D.TOi2 o₃'
  refine wpAny_bind (wpAny_seqItems o₄ rfl ?_); refine wpAny_bind (wpAny_updateSeq_pair o₄ fun k₅ o₅ e₅ => ?_)
  have o₅' : IsPair k₅ TO x y := o₅
  clear o₅
  refine wpAny_bind (wpAny_letGo (wpAny_pure (wpAny_pure ?_))); refine wpAny_bind (wpAny_seqItems o₅' rfl ?_); refine wpAny_bind (wpAny_newTuple ?_)
  have hsz : k₅.objs.size = s.heap.objs.size := by rw [e₅.1, e₄.1, e₃.1, e₂.1, e₁.1]
  have z₅ : IsZip k₅ z TI TO .ellipsis := e₅.extBut _ _ D.TOz.symm (e₄.extBut _ _ D.i2z.symm (e₃.extBut _ _ D.TOz.symm (e₂.extBut _ _ D.i1z.symm hz₁')))
  have kp : ∀ c o, c ≠ z → c ≠ TO → c ≠ i1 → c ≠ i2 → s.heap.get? c = some o → k₅.get? c = some o := fun c o c1 c2 c3 c4 e =>
    e₅.extBut _ _ c2 (e₄.extBut _ _ c4 (e₃.extBut _ _ c2 (e₂.extBut _ _ c3 (e₁.extBut _ _ c1 e))))
  have u₁ : itAt b1 k₅ i1 l1 (n + 1) := ((g₂.ext e₃.extBut D.TOi1.symm).ext e₄.extBut D.i12).ext e₅.extBut D.TOi1.symm
  have u₂ : itAt b2 k₅ i2 l2 (n + 1) := g₄.ext e₅.extBut D.TOi2.symm
  have hlt : z < k₅.objs.size := Heap.lt_size z₅
  show wpAny _ _ (SmallTypes.ownedTupleHandOut (.ref z) (.ref k₅.objs.size) >>= _) _ _ _; refine wpAny_bind ?_; unfold SmallTypes.ownedTupleHandOut
  have z₆ : IsZip (k₅.push { cls := .type "tuple", data := .seq #[x, y] }) z TI TO .ellipsis := Heap.get?_push_of_some _ z₅
  refine wpAny_bind (wpAny_setField_rec z₆ (by simp) fun k₇ z₇ e₇ => ?_)
  have z₇' : IsZip k₇ z TI TO (rawInt k₅.objs.size) := z₇
  refine wpAny_setField_rec z₇' (by simp) fun k₈ z₈ e₈ => ?_
  have z₈' : IsZip k₈ z TI TO (rawInt k₅.objs.size) := z₈
  have up : ∀ c o, c ≠ z → k₅.get? c = some o → k₈.get? c = some o := fun c o c1 e => e₈.extBut _ _ c1 (e₇.extBut _ _ c1 (Heap.get?_push_of_some _ e))
  have t₈ : IsPair k₈ k₅.objs.size x y := e₈.extBut _ _ (Nat.ne_of_gt hlt) (e₇.extBut _ _ (Nat.ne_of_gt hlt) (Heap.get?_push_size _ rfl))
  have n₈ : k₈.objs.size = k₅.objs.size + 1 := by rw [e₈.1, e₇.1, Heap.size_push]
  rw [hsz] at z₈' t₈ n₈
  refine wpAny_pure ⟨_, rfl, ?_⟩
  show Q (.ref k₅.objs.size) _
  rw [hsz]
  exact q k₈ z₈' (up _ _ D.TOz o₅') (u₁.to fun o e => up _ o D.i1z e) (u₂.to fun o e => up _ o D.i2z e) t₈ n₈ fun c o c1 c2 c3 c4 e => up c o c1 (kp c o c1 c2 c3 c4 e)
theorem zip_end2 {z TI TO i1 i2 l1 l2 : Addr} {b1 b2 : Bool} {n : Nat} {xs ys : Array Value} {a b : Value} {Q : Fin → Shared → Prop} (hh : A.handled = none) (D : ZipApart z TI TO i1 i2 l1 l2) (hz : IsZip s.heap z TI TO .none)
    (hTI : IsPair s.heap TI (.ref i1) (.ref i2)) (hTO : IsPair s.heap TO a b) (h1 : itAt b1 s.heap i1 l1 n) (h2 : itAt b2 s.heap i2 l2 n) (hl1 : sqAt b1 s.heap l1 xs) (hl2 : sqAt b2 s.heap l2 ys) (hend : xs[n]? = none ∨ ys[n]? = none)
    (q : ∀ h' e, (∀ c o, c ≠ z → c ≠ TO → c ≠ i1 → c ≠ i2 → s.heap.get? c = some o → h'.get? c = some o) → (∃ o, h'.get? e = some o ∧ o.cls = .type "StopIteration") → E (.ref e) { s with heap := h' }) :
    wpAny (model prog w) A (Builtin.«zip.__next__» ⟨[.ref z], []⟩) Q E s := by
  show wpAny _ _ (field (.ref z) 2 >>= _) _ _ _; refine wpAny_bind (wpAny_field hz rfl (x := .bool false) rfl ?_); show wpAny _ _ (field (.ref z) 3 >>= _) _ _ _
  refine wpAny_bind (wpAny_field hz rfl (x := .ref TI) rfl ?_); refine wpAny_bind (wpAny_seqItems hTI rfl ?_); show wpAny _ _ (SmallTypes.ownedTupleIsFree (.ref z) >>= _) _ _ _
  refine wpAny_bind ?_; unfold SmallTypes.ownedTupleIsFree; refine wpAny_bind (wpAny_field hz rfl (x := .none) rfl (wpAny_pure ?_)); simp only [if_true]
  refine wpAny_bind (wpAny_rule ?_); refine wpAny_bind (wpAny_field hz rfl (x := .ref TO) rfl ?_); refine wpAny_bind (wpAny_setField_rec hz (by simp) fun k₁ hz₁ e₁ => ?_)
  have hz₁' : IsZip k₁ z TI TO .ellipsis := hz₁
  refine wpAny_bind ?_; simp only [List.zipIdx_cons, List.zipIdx_nil, List.forIn_cons, List.forIn_nil]
  refine wpAny_bind (wpAny_bind (wpAny_onRaise ?_)); show wpAny _ _ (SmallTypes.nextOf (.ref i1) >>= _) _ _ _
  cases hx : xs[n]? with
  | none =>
    refine wpAny_bind (next_no hh (h1.ext e₁.extBut D.i1z) (hl1.ext e₁.extBut D.l1z) hx fun k₂ e e₂ he => ?_)
    obtain ⟨oe, hoe, hce⟩ := he
    have z₂ : IsZip k₂ z TI TO .ellipsis := e₂ _ _ D.i1z.symm hz₁'
    have ne : e ≠ z := fun t => by subst t; rw [z₂] at hoe; cases hoe; simp at hce
    exact wpAny_setField_rec z₂ (by simp) fun k₃ _ e₃ => q k₃ e (fun c o c1 _ c3 _ t => e₃.extBut _ _ c1 (e₂ _ _ c3 (e₁.extBut _ _ c1 t))) ⟨oe, e₃.extBut _ _ ne hoe, hce⟩
  | some x =>
    have hy : ys[n]? = none := by
      rcases hend with t | t
      · rw [hx] at t; cases t
      · exact t
    refine wpAny_bind (next_it (h1.ext e₁.extBut D.i1z) (hl1.ext e₁.extBut D.l1z) hx fun k₂ g₂ e₂ => wpAny_pure ?_)
    have o₂ : IsPair k₂ TO a b := e₂.extBut _ _ D.TOi1 (e₁.extBut _ _ D.TOz hTO)
    refine wpAny_bind (wpAny_seqItems o₂ rfl ?_); refine wpAny_bind (wpAny_updateSeq_pair o₂ fun k₃ o₃ e₃ => ?_)
    refine wpAny_bind (wpAny_letGo (wpAny_pure ?_)); refine wpAny_bind (wpAny_bind (wpAny_onRaise ?_)); show wpAny _ _ (SmallTypes.nextOf (.ref i2) >>= _) _ _ _
    refine wpAny_bind (next_no hh (((h2.ext e₁.extBut D.i2z).ext e₂.extBut D.i12.symm).ext e₃.extBut D.TOi2.symm) (((hl2.ext e₁.extBut D.l2z).ext e₂.extBut D.l2i1).ext e₃.extBut D.l2TO) hy fun k₄ e e₄ he => ?_)
    obtain ⟨oe, hoe, hce⟩ := he
    have z₄ : IsZip k₄ z TI TO .ellipsis := e₄ _ _ D.i2z.symm (e₃.extBut _ _ D.TOz.symm (e₂.extBut _ _ D.i1z.symm hz₁'))
    have ne : e ≠ z := fun t => by subst t; rw [z₄] at hoe; cases hoe; simp at hce
    exact wpAny_setField_rec z₄ (by simp) fun k₅ _ e₅ => q k₅ e (fun c o c1 c2 c3 c4 t => e₅.extBut _ _ c1 (e₄ _ _ c4 (e₃.extBut _ _ c2 (e₂.extBut _ _ c3 (e₁.extBut _ _ c1 t))))) ⟨oe, e₅.extBut _ _ ne hoe, hce⟩
end
end PySem
namespace PySem
open Sem (wp)
open Builtin Builtin.Str
section
variable {prog : Program} {w : World} {A : Around} {E : Value → Shared → Prop} {s : Shared}
theorem pyNext_zip2 {z TI TO i1 i2 l1 l2 : Addr} {b1 b2 : Bool} {n : Nat} {xs ys : Array Value} {x y a b : Value} {Q : Option Value → Shared → Prop} (D : ZipApart z TI TO i1 i2 l1 l2) (hz : IsZip s.heap z TI TO .none)
    (hTI : IsPair s.heap TI (.ref i1) (.ref i2)) (hTO : IsPair s.heap TO a b) (h1 : itAt b1 s.heap i1 l1 n) (h2 : itAt b2 s.heap i2 l2 n) (hl1 : sqAt b1 s.heap l1 xs) (hl2 : sqAt b2 s.heap l2 ys) (hx : xs[n]? = some x) (hy : ys[n]? = some y)
    (q : ∀ h', IsZip h' z TI TO (rawInt s.heap.objs.size) → IsPair h' TO x y → itAt b1 h' i1 l1 (n + 1) → itAt b2 h' i2 l2 (n + 1) → IsPair h' s.heap.objs.size x y → h'.objs.size = s.heap.objs.size + 1 →
      (∀ c o, c ≠ z → c ≠ TO → c ≠ i1 → c ≠ i2 → s.heap.get? c = some o → h'.get? c = some o) → Q (some (.ref s.heap.objs.size)) { s with heap := h' }) :
    wpAny (model prog w) A (pyNext (.ref z)) Q E s := by
  have hT : s.TypeIs (.ref z) "zip" := ⟨_, hz, rfl⟩
  unfold pyNext
  refine wpAny_bind (wpAny_attempt (wpAny_callSpecial?_slot (name := Str.ofString "__next__") hT F.slot_zip_next ?_))
  exact wpAny_call_entry F.slot_zip_next hT F.entry_zip_next (zip_item2 D hz hTI hTO h1 h2 hl1 hl2 hx hy fun h' a1 a2 a3 a4 a5 a6 a7 => wpAny_pure (q h' a1 a2 a3 a4 a5 a6 a7)) (F.args_zip_next_1 _)
theorem pyNext_zipE {z TI TO i1 i2 l1 l2 : Addr} {b1 b2 : Bool} {n : Nat} {xs ys : Array Value} {a b : Value} {Q : Option Value → Shared → Prop} (hh : A.handled = none) (D : ZipApart z TI TO i1 i2 l1 l2) (hz : IsZip s.heap z TI TO .none)
    (hTI : IsPair s.heap TI (.ref i1) (.ref i2)) (hTO : IsPair s.heap TO a b) (h1 : itAt b1 s.heap i1 l1 n) (h2 : itAt b2 s.heap i2 l2 n) (hl1 : sqAt b1 s.heap l1 xs) (hl2 : sqAt b2 s.heap l2 ys) (hend : xs[n]? = none ∨ ys[n]? = none)
    (q : ∀ h', (∀ c o, c ≠ z → c ≠ TO → c ≠ i1 → c ≠ i2 → s.heap.get? c = some o → h'.get? c = some o) → Q none { s with heap := h' }) : wpAny (model prog w) A (pyNext (.ref z)) Q E s := by
  have hT : s.TypeIs (.ref z) "zip" := ⟨_, hz, rfl⟩
  unfold pyNext
  refine wpAny_bind (wpAny_attempt (wpAny_callSpecial?_slot (name := Str.ofString "__next__") hT F.slot_zip_next ?_))
  refine wpAny_call_entry F.slot_zip_next hT F.entry_zip_next (zip_end2 hh D hz hTI hTO h1 h2 hl1 hl2 hend fun h' e hk he => ?_) (F.args_zip_next_1 _)
  obtain ⟨o, ho, hc⟩ := he
  exact wpAny_bind (wpAny_isInstance (T := "StopIteration") (b := true) ⟨o, ho, hc⟩ isSubtype_stop (wpAny_pure (q _ hk)))
end
noncomputable abbrev zz1 (h : Heap) (b1 : Bool) (l1 : Addr) : Heap := h.push { cls := .type (itCls b1), data := .fields #[.ref l1, .int 0 0] }
noncomputable abbrev zz2 (h : Heap) (b1 b2 : Bool) (l1 l2 : Addr) : Heap := (zz1 h b1 l1).push { cls := .type (itCls b2), data := .fields #[.ref l2, .int 0 0] }
noncomputable abbrev zz3 (h : Heap) (b1 b2 : Bool) (l1 l2 : Addr) : Heap := (zz2 h b1 b2 l1 l2).push { cls := .type "tuple", data := .seq #[.ref h.objs.size, .ref (zz1 h b1 l1).objs.size] }
noncomputable abbrev zz4 (h : Heap) (b1 b2 : Bool) (l1 l2 : Addr) : Heap := (zz3 h b1 b2 l1 l2).push { cls := .type "tuple", data := .seq #[.none, .none] }
noncomputable abbrev zz5 (h : Heap) (b1 b2 : Bool) (l1 l2 : Addr) : Heap := (zz4 h b1 b2 l1 l2).push { cls := .type "zip", data := .fields #[.none, .bool false, .bool false, .ref (zz2 h b1 b2 l1 l2).objs.size, .ref (zz3 h b1 b2 l1 l2).objs.size] }
theorem meets_zip_new2 (b1 b2 : Bool) (l1 l2 : Addr) (xs ys : Array Value) :
    Meets (Builtin.«zip.__new__» ⟨[.type "zip", .ref l1, .ref l2], []⟩) (fun _ R s => sqAt b1 s.heap l1 xs ∧ sqAt b2 s.heap l2 ys ∧ R (.ok (.ret (.ref (zz4 s.heap b1 b2 l1 l2).objs.size))) { s with heap := zz5 s.heap b1 b2 l1 l2 }) :=
  .of_wp fun prog w A R s h => by
    obtain ⟨hp, g, d, tk, os⟩ := s; obtain ⟨hl1, hl2, h⟩ := h
    have hsub := sub_zip
    have hL1 : sqAt b1 (Shared.heap ⟨hp, g, d, tk, os⟩) l1 xs := hl1
    have hL2 : sqAt b2 (Shared.heap ⟨hp.push { cls := .type (itCls b1), data := .fields #[.ref l1, .int 0 0] }, g, d, tk, os⟩) l2 ys := sqAt.psh hl2 _
    wp_walk using iter_sq hL1, iter_sq hL2
    exact ⟨_, rfl, h⟩
section
variable {prog : Program} {w : World} {A : Around} {E : Value → Shared → Prop} {s : Shared}
theorem it_new {b : Bool} {h : Heap} {it l : Addr} (e : h.get? it = some { cls := .type (itCls b), data := .fields #[.ref l, .int 0 0] }) : itAt b h it l 0 := by
  cases b with
  | true => exact ⟨_, e, rfl, rfl⟩
  | false => exact ⟨_, e, rfl, rfl⟩
theorem call_zipS {b1 b2 : Bool} {l1 l2 : Addr} {xs ys : Array Value} {Q : Value → Shared → Prop} (hl1 : sqAt b1 s.heap l1 xs) (hl2 : sqAt b2 s.heap l2 ys)
    (q : ∀ h', IsZip h' (s.heap.objs.size + 4) (s.heap.objs.size + 2) (s.heap.objs.size + 3) .none → IsPair h' (s.heap.objs.size + 2) (.ref s.heap.objs.size) (.ref (s.heap.objs.size + 1)) →
      IsPair h' (s.heap.objs.size + 3) .none .none → itAt b1 h' s.heap.objs.size l1 0 → itAt b2 h' (s.heap.objs.size + 1) l2 0 → (∀ c o, s.heap.get? c = some o → h'.get? c = some o) → Q (.ref (s.heap.objs.size + 4)) { s with heap := h' }) :
    wpAny (model prog w) A (call (.type "zip") [.ref l1, .ref l2]) Q E s := by
  refine callType_new F.called_zip (by decide) (F.typeCall_zip_2 _ _) (F.newCall_zip_2 _ _) (fun obj => F.args_object_init_3 obj _ _) F.entry_zip_new (meets_zip_new2 b1 b2 l1 l2 xs ys) ⟨hl1, hl2, ?_⟩
  have n1 : (zz1 s.heap b1 l1).objs.size = s.heap.objs.size + 1 := Heap.size_push ..
  have n2 : (zz2 s.heap b1 b2 l1 l2).objs.size = s.heap.objs.size + 2 := by rw [Heap.size_push, n1]
  have n3 : (zz3 s.heap b1 b2 l1 l2).objs.size = s.heap.objs.size + 3 := by rw [Heap.size_push, n2]
  have n4 : (zz4 s.heap b1 b2 l1 l2).objs.size = s.heap.objs.size + 4 := by rw [Heap.size_push, n3]
  have u1 : ∀ c o, s.heap.get? c = some o → (zz1 s.heap b1 l1).get? c = some o := fun c o e => Heap.get?_push_of_some _ e
  have u2 : ∀ c o, (zz1 s.heap b1 l1).get? c = some o → (zz2 s.heap b1 b2 l1 l2).get? c = some o := fun c o e => Heap.get?_push_of_some _ e
  have u3 : ∀ c o, (zz2 s.heap b1 b2 l1 l2).get? c = some o → (zz3 s.heap b1 b2 l1 l2).get? c = some o := fun c o e => Heap.get?_push_of_some _ e
  have u4 : ∀ c o, (zz3 s.heap b1 b2 l1 l2).get? c = some o → (zz4 s.heap b1 b2 l1 l2).get? c = some o := fun c o e => Heap.get?_push_of_some _ e
  have u5 : ∀ c o, (zz4 s.heap b1 b2 l1 l2).get? c = some o → (zz5 s.heap b1 b2 l1 l2).get? c = some o := fun c o e => Heap.get?_push_of_some _ e
  have g5 : (zz5 s.heap b1 b2 l1 l2).get? (zz4 s.heap b1 b2 l1 l2).objs.size = some _ := Heap.get?_push_size _ rfl
  have g4 : (zz5 s.heap b1 b2 l1 l2).get? (zz3 s.heap b1 b2 l1 l2).objs.size = some _ := u5 _ _ (Heap.get?_push_size _ rfl)
  have g3 : (zz5 s.heap b1 b2 l1 l2).get? (zz2 s.heap b1 b2 l1 l2).objs.size = some _ := u5 _ _ (u4 _ _ (Heap.get?_push_size _ rfl))
  have g2 : (zz5 s.heap b1 b2 l1 l2).get? (zz1 s.heap b1 l1).objs.size = some _ := u5 _ _ (u4 _ _ (u3 _ _ (Heap.get?_push_size _ rfl)))
  have g1 : (zz5 s.heap b1 b2 l1 l2).get? s.heap.objs.size = some _ := u5 _ _ (u4 _ _ (u3 _ _ (u2 _ _ (Heap.get?_push_size _ rfl))))
  show _ ∧ _
  rw [n2, n3, n4] at g5; rw [n1, n2] at g3; rw [n3] at g4; rw [n1] at g2; rw [n4]
  exact ⟨⟨_, g5, rfl⟩, q _ g5 g3 g4 (it_new g1) (it_new g2) fun c o e => u5 _ _ (u4 _ _ (u3 _ _ (u2 _ _ (u1 _ _ e))))⟩
end
end PySem
namespace L3
open PySem PySem.Spec PyProof.Rows L2
noncomputable def SqB (b : Bool) (K : PySem.W.Frag) (H : Hp) (a : Addr) (xs : List V) : Prop := match b with
  | true => SqT K H a xs
  | false => SqL K H a xs
noncomputable def Itz (K : PySem.W.Frag) (b1 b2 : Bool) (a c : Addr) : It :=
  ⟨fun i H => ∃ xs ys x y, SqB b1 K H a xs ∧ SqB b2 K H c ys ∧ xs[i]? = some x ∧ ys[i]? = some y,
   fun i H v H' => ∃ p x y, H p = none ∧ v = .ref p ∧ (∀ xs, SqB b1 K H a xs → xs[i]? = some x) ∧ (∀ ys, SqB b2 K H c ys → ys[i]? = some y) ∧ H' = upd H p (.tup [x, y]),
   fun i H => ∃ xs ys, SqB b1 K H a xs ∧ SqB b2 K H c ys ∧ (xs.length ≤ i ∨ ys.length ≤ i)⟩
theorem lst_inj {X : Cx} {pins : List (Addr × Obj)} {σ : L2.St} {H : Hp} {s : Shared} {a : Addr} {xs ys : List V} (I : Inv X pins σ H s) (h1 : SqL X.K H a xs) (h2 : SqL X.K H a ys) : xs = ys := by
  obtain ⟨its, r1, ⟨o, k, e1, _, n, d1⟩, _⟩ := I.list h1
  obtain ⟨its2, r2, ⟨o2, k2, e2, _, n2, d2⟩, _⟩ := I.list h2
  rw [e1] at e2
  cases e2
  have : its = its2 := by
    have q : its.toArray = its2.toArray := by injection d1.symm.trans d2
    simpa using q
  subst this
  exact r1.inj r2
theorem sqB_at {X : Cx} {pins : List (Addr × Obj)} {σ : L2.St} {H : Hp} {s : Shared} {b : Bool} {a : Addr} {xs : List V} (I : Inv X pins σ H s) (h : SqB b X.K H a xs) : ∃ its, Vals xs its ∧ sqAt b s.heap a its.toArray := by
  cases b with
  | true => obtain ⟨its, rv, p, hz⟩ := I.tuple h; exact ⟨its, rv, p⟩
  | false => obtain ⟨its, rv, p, hz⟩ := I.list h; exact ⟨its, rv, p.isList⟩
theorem sqB_inj {X : Cx} {pins : List (Addr × Obj)} {σ : L2.St} {H : Hp} {s : Shared} {b : Bool} {a : Addr} {xs ys : List V} (I : Inv X pins σ H s) (h1 : SqB b X.K H a xs) (h2 : SqB b X.K H a ys) : xs = ys := by
  cases b with
  | true => exact tup_inj I h1 h2
  | false => exact lst_inj I h1 h2
theorem turnedAll {X : Cx} {pins : List (Addr × Obj)} {σ : L2.St} {H : Hp} {s : Shared} {h' : Heap} {t' : Nat} {ch : List Addr} (I : Inv X pins σ H s) (hf : ∀ b ∈ ch, FpOk X pins H b)
    (k : ∀ b u, b ∉ ch → s.heap.get? b = some u → h'.get? b = some u) : Inv X pins σ H { s with heap := h', toks := t' } := by
  have nch : ∀ b u, H b = some u → b ∉ ch := fun b u e z => by rw [(hf b z).1] at e; cases e
  refine I.step (g' := s.gens) (d' := s.drawn) (ch := ch) (fun b hb => ?_) (fun b u _ _ hc e _ => k b u hc e) (fun b u _ _ hc e _ => ⟨u.slots, k b u hc e⟩) (fun _ _ _ _ n => n)
    (fun b u hc e => ⟨u, k b u hc e⟩) (fun _ _ e => e) (fun _ _ _ e => e) (fun b ps e => ⟨#[], by rw [e]; simp⟩) (fun m hm => ?_) (fun b u e => ?_) I.bare
  · obtain ⟨_, h2, _, h4, h5, h6⟩ := hf b hb
    exact ⟨h4, h2, h5, h6⟩
  · obtain ⟨ob, es, ep, ho, r⟩ := hm
    exact ⟨ob, es, ep, k _ ob (fun z => (hf _ z).2.1 rfl) ho, r⟩
  · refine (I.hok b u e).stay (fun c v hc q => k c v ?_ q) (fun _ q => q) fun _ _ q => q
    rcases hc with z | z
    · rw [z]; exact nch b u e
    · exact nch c _ z
theorem turn_zip {P : Program} {w : World} {K : PySem.W.Frag} {elts : List Expr} {kk} {tp : Pos} (b1 b2 : Bool) (z TI TO i1 i2 l1 l2 : Addr) (D : ZipApart z TI TO i1 i2 l1 l2) :
    Turn P w K (.Tuple elts kk tp) (Itz K b1 b2 l1 l2) [z, TI, TO, i1, i2] z (fun i h => IsZip h z TI TO .none ∧ IsPair h TI (.ref i1) (.ref i2) ∧ (∃ a b, IsPair h TO a b) ∧ itAt b1 h i1 l1 i ∧ itAt b2 h i2 l2 i) where
  mem := by simp
  obj := fun i h st b hb => by
    obtain ⟨hz, hI, ⟨a, c, hO⟩, h1, h2⟩ := st
    simp only [List.mem_cons, List.not_mem_nil, or_false] at hb
    rcases hb with rfl | rfl | rfl | rfl | rfl
    · exact ⟨_, hz, fun v q => by cases (show Data.fields _ = Data.cell v from q)⟩
    · exact ⟨_, hI, fun v q => by cases (show Data.seq _ _ = Data.cell v from q)⟩
    · exact ⟨_, hO, fun v q => by cases (show Data.seq _ _ = Data.cell v from q)⟩
    · exact h1.live
    · exact h2.live
  keep := fun i h h' st k => by
    obtain ⟨hz, hI, ⟨a, c, hO⟩, h1, h2⟩ := st
    exact ⟨k z (by simp) _ hz, k TI (by simp) _ hI, ⟨a, c, k TO (by simp) _ hO⟩, h1.to fun o q => k i1 (by simp) o q, h2.to fun o q => k i2 (by simp) o q⟩
  item := by
    intro X hP hw hK hc i pins s σ H E I hf st hg
    subst hP hw hK
    obtain ⟨hz, hI, ⟨a, c, hO⟩, h1, h2⟩ := st
    obtain ⟨xs, ys, x, y, sx, sy, hx, hy⟩ := hg
    obtain ⟨its, rx, px⟩ := sqB_at I sx
    obtain ⟨jts, ry, py⟩ := sqB_at I sy
    obtain ⟨u, hu, ru⟩ := rx.get hx
    obtain ⟨t, ht, rt⟩ := ry.get hy
    refine pyNext_zip2 (x := u) (y := t) D hz hI hO h1 h2 px py (by simpa using hu) (by simpa using ht) fun k z1 o1 g1 g2 pr sz kp => ⟨_, rfl, ?_⟩
    refine wpAny_letOwnedTupleGo_zip (s := { s with heap := k }) z1 fun h2' z2 e2 => ?_
    have hzl : z < s.heap.objs.size := Heap.lt_size hz
    have hIl : TI < s.heap.objs.size := Heap.lt_size hI
    have hOl : TO < s.heap.objs.size := Heap.lt_size hO
    have h1l : i1 < s.heap.objs.size := by obtain ⟨_, q, _⟩ := h1.live; exact Heap.lt_size q
    have h2l : i2 < s.heap.objs.size := by obtain ⟨_, q, _⟩ := h2.live; exact Heap.lt_size q
    have hn : H s.heap.objs.size = none := I.hok.fresh (Nat.le_refl _)
    have kk : ∀ b o, b ∉ [z, TI, TO, i1, i2] → s.heap.get? b = some o → h2'.get? b = some o := fun b o hb q => by
      simp only [List.mem_cons, List.not_mem_nil, or_false, not_or] at hb
      exact (e2.2 b hb.1).trans (kp b o hb.1 hb.2.2.1 hb.2.2.2.1 hb.2.2.2.2 q)
    have hT2 : h2'.get? s.heap.objs.size = some { cls := .type "tuple", data := .seq #[u, t] } := (e2.2 _ (Nat.ne_of_gt hzl)).trans pr
    have I2 : Inv X pins σ (upd H s.heap.objs.size (.tup [x, y])) { s with heap := h2' } :=
      I.turnedLaid (t' := s.toks) (ch := [z, TI, TO, i1, i2]) hf kk (Nat.le_refl _) ⟨by show 2 ≤ sizeLine; decide, [u, t], .cons ru (.cons rt .nil), ⟨_, hT2, rfl, _, rfl⟩⟩
    have oth : ∀ b o, b ≠ z → k.get? b = some o → h2'.get? b = some o := fun b o n q => (e2.2 b n).trans q
    refine ⟨.ref s.heap.objs.size, _, I2, rfl, ⟨_, x, y, hn, rfl, fun zs hs => by rw [sqB_inj I hs sx]; exact hx, fun zs hs => by rw [sqB_inj I hs sy]; exact hy, rfl⟩,
      ⟨z2, oth _ _ D.TIz (kp _ _ D.TIz D.TITO D.TIi1 D.TIi2 hI), ⟨_, _, oth _ _ D.TOz o1⟩, g1.to fun o q => oth _ _ D.i1z q, g2.to fun o q => oth _ _ D.i2z q⟩, fun b hb => ?_⟩
    have hb2 : b < s.heap.objs.size := by
      simp only [List.mem_cons, List.not_mem_nil, or_false] at hb
      rcases hb with rfl | rfl | rfl | rfl | rfl <;> assumption
    rw [upd_ne (Nat.ne_of_lt hb2)]
    exact (hf b hb).1
  done := by
    intro X hP hw hK hc i pins s σ H E I hf st hg
    subst hP hw hK
    obtain ⟨hz, hI, ⟨a, c, hO⟩, h1, h2⟩ := st
    obtain ⟨xs, ys, sx, sy, hxy⟩ := hg
    obtain ⟨its, rx, px⟩ := sqB_at I sx
    obtain ⟨jts, ry, py⟩ := sqB_at I sy
    have hl1 := rx.length
    have hl2 := ry.length
    have hd : its.toArray[i]? = none ∨ jts.toArray[i]? = none := by
      rcases hxy with q | q
      · exact .inl (by simp; omega)
      · exact .inr (by simp; omega)
    refine pyNext_zipE (I.ok.hd hc) D hz hI hO h1 h2 px py hd fun k kp => ⟨rfl, ?_⟩
    exact turnedAll I (t' := s.toks) (ch := [z, TI, TO, i1, i2]) hf fun b o hb q => by
      simp only [List.mem_cons, List.not_mem_nil, or_false, not_or] at hb
      exact kp b o hb.1 hb.2.2.1 hb.2.2.2.1 hb.2.2.2.2 q
  self := fun _ _ _ _ _ st h => wpAny_pyIter_zip st.1 h
theorem zip_apart (n l1 l2 : Nat) (h1 : l1 < n) (h2 : l2 < n) : ZipApart (n + 4) (n + 2) (n + 3) n (n + 1) l1 l2 := by constructor <;> (show (_ : Nat) ≠ _; omega)
noncomputable def iZipA (K : PySem.W.Frag) (ta : TA) : TI := fun σ H R => ta σ H fun vs H1 => ∃ a c b1 b2, vs = [.ref a, .ref c] ∧ (∃ xs, SqB b1 K H1 a xs) ∧ (∃ ys, SqB b2 K H1 c ys) ∧ R (Itz K b1 b2 a c) H1
theorem boot_zip : bootBuiltins "zip" = some (.type "zip") := by decide +kernel
theorem pi_zip {X : Cx} {l m : Expr} {ta : TA} {p pos tp : Pos} {elts : List Expr} {kk} (hg : Gl X "zip") (hm : X.mg "zip" = none) (ha : PA X [l, m] ta) (hs : starEach [l, m] X.env = (false, eval l X.env) :: starEach [m] X.env := by rfl) (hp : (backTo pos (starEach [m] X.env)).any (·.1) = false := by rfl) :
    PI X (.Tuple elts kk tp) (.Call (.Name "zip" p) [l, m] [] pos) (iZipA X.K ta) := by
  intro pins s σ H R I h
  refine Call_ (ld_blt I hg hm boot_zip (PyProof.Rows.callWith_type1 (thn (ha pos pins s σ H _ I h) fun us s1 ⟨vs, H1, I1, r1, q1⟩ => ?_) hs hp))
  obtain ⟨a, c, b1, b2, e, ⟨xs, sx⟩, ⟨ys, sy⟩, q⟩ := q1
  subst e
  obtain ⟨u, t, rfl, ru, rt⟩ := vals2 r1
  cases ru; cases rt
  obtain ⟨its, rx, px⟩ := sqB_at I1 sx
  obtain ⟨jts, ry, py⟩ := sqB_at I1 sy
  have fp : ∀ b ∈ [s1.heap.objs.size + 4, s1.heap.objs.size + 2, s1.heap.objs.size + 3, s1.heap.objs.size, s1.heap.objs.size + 1], FpOk X pins H1 b := fun b hb => by
    have hb2 : s1.heap.objs.size ≤ b := by
      simp only [List.mem_cons, List.not_mem_nil, or_false] at hb
      have hb' : (b : Nat) = s1.heap.objs.size + 4 ∨ (b : Nat) = s1.heap.objs.size + 2 ∨ (b : Nat) = s1.heap.objs.size + 3 ∨ (b : Nat) = s1.heap.objs.size ∨ (b : Nat) = s1.heap.objs.size + 1 := hb
      show (s1.heap.objs.size : Nat) ≤ b
      omega
    exact I1.fpOk hb2 (I1.hok.fresh hb2)
  refine call_zipS px py fun h1 z1 p1 p2 t1 t2 hk => ?_
  refine wpAny_pyIter_zip (s := { s1 with heap := h1 }) z1 ?_
  exact ⟨s1.heap.objs.size + 4, _, _, _, H1, rfl, I1.kept (t' := s1.toks) hk, turn_zip b1 b2 _ _ _ _ _ a c (zip_apart _ _ _ px.lt py.lt), ⟨z1, p1, ⟨_, _, p2⟩, t1, t2⟩, fp, q⟩
noncomputable def isSt : Expr → Bool
  | .Starred _ _ => true
  | _ => false
theorem star_cons (e : Expr) (es : List Expr) (env : Env) (h : isSt e = false) : starEach (e :: es) env = (false, eval e env) :: starEach es env := by
  cases e <;> first | rfl | cases h
theorem paC {X : Cx} {e : Expr} {es : List Expr} {te : TE} {t : TA} (ha : PE X e te) (hr : PA X es t) (hs : isSt e = false := by rfl) : PA X (e :: es) (tCons te t) := pa_cons ha hr (star_cons e es X.env hs)
section
variable {X : Cx} {a b c e : Expr} {ta tb tc td : TE} {k : Nat} {pos : Pos}
end
noncomputable def zipD : List D → List D → List D
  | x :: r, y :: q => .tuple [x, y] :: zipD r q
  | _, _ => []
theorem zipD_len : ∀ (xs ys : List D), (zipD xs ys).length = min xs.length ys.length
  | [], _ => by simp [zipD]
  | _ :: _, [] => by simp [zipD]
  | _ :: r, _ :: q => by simp only [zipD, List.length_cons, zipD_len r q]; omega
theorem zipD_get : ∀ (xs ys : List D) (i : Nat), (zipD xs ys)[i]? = (xs[i]?).bind fun x => (ys[i]?).map fun y => .tuple [x, y]
  | [], _, _ => by simp [zipD]
  | x :: r, [], i => by cases i <;> simp [zipD]
  | x :: r, y :: q, 0 => by simp [zipD]
  | x :: r, y :: q, i + 1 => by simp only [zipD, List.getElem?_cons_succ]; exact zipD_get r q i
section
variable {K : PySem.W.Frag} {E : XK} {B O O' : Own} {H0 H H' : Hp} {σ : L2.St} {ρ ρ' : PEnv} {v : V}
noncomputable def SqBO (b : Bool) (O : Own) (K : PySem.W.Frag) (H : Hp) (a : Addr) (xs : List V) : Prop := match b with
  | true => SqTO O K H a xs
  | false => SqLO O K H a xs
theorem SqBO.ev {b : Bool} {a : Addr} {xs : List V} (h : SqBO b O K H a xs) (e : Ev O H O' H') : SqBO b O' K H' a xs := by
  cases b with
  | true => exact SqTO.ev h e
  | false => exact SqLO.ev h e
theorem SqBO.at {b : Bool} {a : Addr} {xs : List V} (h : SqBO b O K H a xs) : SqB b K H a xs := by
  cases b with
  | true => exact (show SqTO O K H a xs from h).1
  | false => exact (show SqLO O K H a xs from h).1.sq
theorem it_zip {b1 b2 : Bool} {a c : Addr} {xs ys : List V} {ds es : List D} (h : SqBO b1 O K H a xs) (hd : DVs O K H xs ds) (g : SqBO b2 O K H c ys) (gd : DVs O K H ys es) : ItOk K (Itz K b1 b2 a c) O H (zipD ds es) := by
  intro O' H' e n
  have h' := h.ev e
  have hd' := hd.ev e
  have g' := g.ev e
  have gd' := gd.ev e
  rw [zipD_len]
  refine ⟨fun i hi => ?_, ⟨xs, ys, h'.at, g'.at, ?_⟩⟩
  · have i1 : i < ds.length := by omega
    have i2 : i < es.length := by omega
    obtain ⟨x, hx, dx⟩ := hd'.get (List.getElem?_eq_getElem i1)
    obtain ⟨y, hy, dy⟩ := gd'.get (List.getElem?_eq_getElem i2)
    refine ⟨⟨xs, ys, x, y, h'.at, g'.at, hx, hy⟩, ?_⟩
    rintro t H'' ⟨p, x', y', hp, rfl, hx', hy', rfl⟩
    have q1 := hx' xs h'.at
    have q2 := hy' ys g'.at
    rw [hx] at q1
    rw [hy] at q2
    cases q1; cases q2
    refine ⟨same_upd hp _, .tuple [ds[i], es[i]], ?_, .tup ⟨SqT.of upd_same, fun q => absurd q (n p hp)⟩ (.cons (dx.ev (Ev.grow (same_upd hp _))) (.cons (dy.ev (Ev.grow (same_upd hp _))) .nil))⟩
    rw [zipD_get, List.getElem?_eq_getElem i1, List.getElem?_eq_getElem i2]
    rfl
  · rw [hd.length, gd.length]
    omega
theorem seqBO {d : D} {ds : List D} (h : DV O K H v d) (q : asSeq d = some ds) : ∃ b a xs, v = .ref a ∧ SqBO b O K H a xs ∧ DVs O K H xs ds := by
  cases h with
  | tup h hs => cases q; exact ⟨true, _, _, rfl, h, hs⟩
  | lst h hs => cases q; exact ⟨false, _, _, rfl, h, hs⟩
  | _ => cases q
noncomputable def iZip (fa : FA) : FI := fun ρ => (fa ρ).bind fun a => (Res.ofO (toDs a.2 a.1)).bind fun b => match b.1 with
  | [d, e] => (Res.ofO (asSeq d)).bind fun ds => (Res.ofO (asSeq e)).bind fun es => .ok (zipD ds es, b.2)
  | _ => .bad
theorem io_zip {ta : TA} {fa : FA} (h : AO K E ta fa) : IO K E (iZipA K ta) (iZip fa) := by
  intro B H0 O σ H ρ R' R w
  refine h B H0 O σ H ρ _ R (w.bind.imp fun a w1 O1 vs H1 e1 R1 p1 => ?_)
  obtain ⟨⟨ds, ρ2⟩, q, w1⟩ := w1.ofO
  obtain ⟨O2, e2, R2, dv⟩ := tos_ok R1 p1 q
  dsimp only at w1
  cases dv with
  | nil => exact w1.elim
  | cons h1 h2 =>
    cases h2 with
    | nil => exact w1.elim
    | cons h2 h3 =>
      cases h3 with
      | cons _ _ => exact w1.elim
      | nil =>
        obtain ⟨es, qs, w1⟩ := WR.ofO w1
        obtain ⟨fs, qt, w1⟩ := WR.ofO w1
        obtain ⟨b1, a1, xs, rfl, s1, d1⟩ := seqBO h1 qs
        obtain ⟨b2, a2, ys, rfl, s2, d2⟩ := seqBO h2 qt
        exact ⟨a1, a2, b1, b2, rfl, ⟨_, s1.at⟩, ⟨_, s2.at⟩, w1 O2 _ H1 (e1.trans e2) R2 (it_zip s1 d1 s2 d2)⟩
noncomputable def ixS (d e : D) : Option RV := match d, e with
  | .str z, .int i => if z.length ≤ 1000000 then (atI z.cps.toList i).map fun c => .fz (.str ⟨#[c]⟩) else none
  | _, _ => none
theorem opp_ixS : OpP K (rIx K) ixS := by
  intro O H x y dx dy rv Q n hx hy e q
  unfold ixS at e
  split at e
  · split at e
    · rename_i z i hl
      cases qa : atI z.cps.toList i with
      | none => rw [qa] at e; cases e
      | some c =>
        rw [qa] at e
        cases e
        cases hx; cases hy
        exact .inr (.inr ⟨z, i, c, rfl, rfl, le1e6 hl, qa, q.at (.str _)⟩)
    · cases e
  · cases e
noncomputable def lenS : List D → Option RV
  | [.str z] => if z.length ≤ 1000000 then some (.fz (.int z.length)) else none
  | _ => none
theorem cb_lenS : CbP K (fun xs H Q => ∃ x n, xs = [x] ∧ LenV K x H n ∧ Q (.int n) H) lenS := by
  intro O H xs ds rv Q n hp e q
  unfold lenS at e
  split at e
  · split at e
    · rename_i z hl
      cases e
      cases hp with
      | cons h1 h2 =>
        cases h2; cases h1
        exact ⟨_, z.length, rfl, ⟨le1e6 hl, rfl⟩, q.at (.int _)⟩
    · cases e
  · cases e
noncomputable def rStr (g : Str → Str → Bool) : R2 := fun x y H Q => ∃ i j, x = .str i ∧ y = .str j ∧ Q (.bl (g i j)) H
noncomputable def fS (g : Str → Str → Bool) : D → D → Option RV
  | .str i, .str j => some (.fz (.bool (g i j)))
  | _, _ => none
theorem opp_s {g : Str → Str → Bool} : OpP K (rStr g) (fS g) := by
  intro O H x y dx dy rv Q n hx hy e q
  unfold fS at e
  split at e
  · cases e
    cases hx; cases hy
    exact ⟨_, _, rfl, rfl, q.at (.bl _)⟩
  · cases e
noncomputable def leSt (i j : Str) : Bool := !decide (j.cps.toList < i.cps.toList)
theorem op_leS {X : Cx} : OpR X (compareOp .LtE) (rStr leSt) := by
  intro pins s σ H x y v u Q I rx ry h
  obtain ⟨i, j, rfl, rfl, q⟩ := h
  obtain ⟨t, rfl⟩ := rx
  obtain ⟨t', rfl⟩ := ry
  exact PySem.P.le_str (fin_bl I q rfl)
noncomputable def leS := fS leSt
theorem opp_leS : OpP K (rStr leSt) leS := opp_s
end
end L3
namespace L3
open PySem L2
noncomputable def GoD (N C : PEnv → Prop) (T : RV → Prop) : Res Fl → Prop
  | .ok (.nx ρ) => N ρ
  | .ok (.ct ρ) => C ρ
  | .ok (.rt v) => T v
  | _ => False
structure Go (r : Res Fl) (N C : PEnv → Prop) (T : RV → Prop) : Prop where
  out : GoD N C T r
section
variable {ρ ρ1 ρ2 ρ3 : PEnv} {f g : FS} {fe : FE} {pv : PV} {d : D} {rv : RV} {ds : List D} {N C : PEnv → Prop} {T : RV → Prop}
theorem Go.eq {r r' : Res Fl} (e : r = r') (h : Go r' N C T) : Go r N C T := by rw [e]; exact h
theorem Go.imp {r : Res Fl} {N' C' : PEnv → Prop} {T' : RV → Prop} (h : Go r N C T) (hN : ∀ ρ, N ρ → N' ρ) (hC : ∀ ρ, C ρ → C' ρ) (hT : ∀ v, T v → T' v) : Go r N' C' T' := by
  refine ⟨?_⟩
  have h := h.out
  cases r with
  | bad => exact h
  | er x => exact h
  | ok fl =>
    cases fl with
    | nx r => exact hN _ h
    | ct r => exact hC _ h
    | rt v => exact hT _ h
    | bk r => exact h
theorem go_seq (h : Go (f ρ) (fun r => Go (g r) N C T) C T) : Go (sSeq f g ρ) N C T := by
  refine ⟨?_⟩
  have h := h.out
  unfold sSeq
  cases q : f ρ with
  | bad => rw [q] at h; exact h.elim
  | er x => rw [q] at h; exact h.elim
  | ok fl =>
    rw [q] at h
    cases fl with
    | nx r => exact (show Go (g r) N C T from h).out
    | ct r => exact h
    | rt v => exact h
    | bk r => exact h.elim
theorem go_if {c : FT} {b : Bool} (hc : c ρ = .ok (b, ρ1)) (ht : b = true → Go (f ρ1) N C T) (hf : b = false → Go (g ρ1) N C T) : Go (sIf c f g ρ) N C T := by
  unfold sIf
  rw [hc, Res.bind_ok]
  cases b with
  | true => exact ht rfl
  | false => exact hf rfl
theorem go_asg {gt : FG} (he : fe ρ = .ok (pv, ρ1)) (hg : gt pv ρ1 = .ok ρ2) (h : N ρ2) : Go (sAsg fe gt ρ) N C T := .eq (st_asg he hg rfl) ⟨h⟩
theorem go_drop (he : fe ρ = .ok (pv, ρ1)) (h : N ρ1) : Go (sDrop fe ρ) N C T := .eq (st_drop he) ⟨h⟩
theorem go_ret (he : fe ρ = .ok (pv, ρ1)) (hr : retV ρ1 pv = some rv) (h : T rv) : Go (sRet fe ρ) N C T := .eq (st_ret he hr) ⟨h⟩
theorem go_next (h : N ρ) : Go (sNext ρ) N C T := ⟨h⟩
theorem forP_go {gt : FG} {b : FS} (I : Nat → PEnv → Prop) : ∀ (ds : List D) (k : Nat) (ρ : PEnv), I k ρ → (∀ i d ρ, ds[i]? = some d → I (k + i) ρ → ∃ ρ1, gt (.fz d) ρ = .ok ρ1 ∧ Go (b ρ1) (I (k + i + 1)) (I (k + i + 1)) T) → Go (forP gt b ds ρ) (I (k + ds.length)) C T
  | [], k, ρ, h0, _ => ⟨h0⟩
  | d :: r, k, ρ, h0, hs => by
    obtain ⟨ρ1, h1, h2⟩ := hs 0 d ρ rfl h0
    have h2 := h2.out
    have rest : ∀ ρ', I (k + 1) ρ' → Go (forP gt b r ρ') (I (k + (r.length + 1))) C T := fun ρ' h => by
      have e : k + (r.length + 1) = k + 1 + r.length := by omega
      rw [e]
      refine forP_go I r (k + 1) ρ' h fun i d' ρ'' hi hI => ?_
      have e : k + 1 + i = k + (i + 1) := by omega
      rw [e] at hI ⊢
      exact hs (i + 1) d' ρ'' (by simpa using hi) hI
    refine ⟨?_⟩
    show GoD _ _ _ ((gt (.fz d) ρ).bind _)
    rw [h1, Res.bind_ok]
    cases q : b ρ1 with
    | bad => rw [q] at h2; exact h2.elim
    | er x => rw [q] at h2; exact h2.elim
    | ok fl =>
      rw [q] at h2
      cases fl with
      | nx r => exact (rest _ h2).out
      | ct r => exact (rest _ h2).out
      | rt v => exact h2
      | bk r => exact h2.elim
theorem go_for {fi : FI} {gt : FG} {b : FS} (I : Nat → PEnv → Prop) (hi : fi ρ = .ok (ds, ρ1)) (h0 : I 0 ρ1) (hs : ∀ i d ρ, ds[i]? = some d → I i ρ → ∃ ρ1, gt (.fz d) ρ = .ok ρ1 ∧ Go (b ρ1) (I (i + 1)) (I (i + 1)) T) (hN : ∀ ρ', I ds.length ρ' → N ρ') : Go (sFor fi gt b ρ) N C T := by
  have := forP_go (C := C) (T := T) I ds 0 ρ1 h0 (by simpa using hs)
  rw [Nat.zero_add] at this
  exact .eq (for_of hi) (this.imp hN (fun _ h => h) fun _ h => h)
theorem go_run {n : Nat} {g : FS} {T : RV → Prop} (hρ : ds.map (fun d => some (.fz d)) ++ List.replicate (n - ds.length) none = ρ) (h : Go (g ρ) (fun _ => T (.fz .none)) (fun _ => False) T) : ∃ rv, runF n g ds = .ok rv ∧ T rv := by
  have h := h.out
  unfold runF
  rw [hρ]
  cases q : g ρ with
  | bad => rw [q] at h; exact h.elim
  | er x => rw [q] at h; exact h.elim
  | ok fl =>
    rw [q] at h
    cases fl with
    | nx r => exact ⟨_, rfl, h⟩
    | ct r => exact h.elim
    | rt v => exact ⟨_, rfl, h⟩
    | bk r => exact h.elim
theorem go_val {n : Nat} {g : FS} {v : RV} (hρ : ds.map (fun d => some (.fz d)) ++ List.replicate (n - ds.length) none = ρ) (h : Go (g ρ) (fun _ => RV.fz .none = v) (fun _ => False) (fun r => r = v)) : runF n g ds = .ok v := by
  obtain ⟨rv, h1, h2⟩ := go_run (T := fun r => r = v) hρ h
  rw [h1, h2]
theorem gs_asg {gt : FG} (he : fe ρ = .ok (pv, ρ1)) (hg : gt pv ρ1 = .ok ρ2) (hn : ρ2 = ρ3) (h : Go (g ρ3) N C T) : Go (sSeq (sAsg fe gt) g ρ) N C T := .eq (seq_nx (st_asg he hg hn)) h
theorem gl_asg {gt : FG} (he : fe ρ = .ok (pv, ρ1)) (hg : gt pv ρ1 = .ok ρ2) (hn : ρ2 = ρ3) (h : N ρ3) : Go (sAsg fe gt ρ) N C T := .eq (st_asg he hg hn) ⟨h⟩
theorem gs_drop (he : fe ρ = .ok (pv, ρ1)) (h : Go (g ρ1) N C T) : Go (sSeq (sDrop fe) g ρ) N C T := .eq (seq_nx (st_drop he)) h
theorem gs_ret (he : fe ρ = .ok (pv, ρ1)) (hr : retV ρ1 pv = some rv) (h : T rv) : Go (sSeq (sRet fe) g ρ) N C T := .eq (seq_rt (st_ret he hr)) ⟨h⟩
theorem gs_next (h : Go (g ρ) N C T) : Go (sSeq sNext g ρ) N C T := .eq rfl h
theorem seq_assoc {f1 f2 : FS} : sSeq (sSeq f1 f2) g ρ = sSeq f1 (sSeq f2 g) ρ := by
  unfold sSeq
  cases f1 ρ with
  | bad => rfl
  | er x => rfl
  | ok fl => cases fl <;> rfl
theorem gs_seq {f1 f2 : FS} (h : Go (sSeq f1 (sSeq f2 g) ρ) N C T) : Go (sSeq (sSeq f1 f2) g ρ) N C T := .eq seq_assoc h
theorem gs_if {c : FT} {f1 f2 : FS} {b : Bool} (hc : c ρ = .ok (b, ρ1)) (ht : b = true → Go (sSeq f1 g ρ1) N C T) (hf : b = false → Go (sSeq f2 g ρ1) N C T) : Go (sSeq (sIf c f1 f2) g ρ) N C T := by
  have e : sSeq (sIf c f1 f2) g ρ = if b = true then sSeq f1 g ρ1 else sSeq f2 g ρ1 := by
    unfold sSeq sIf
    rw [hc, Res.bind_ok]
    cases b <;> rfl
  refine .eq e ?_
  cases b with
  | true => exact ht rfl
  | false => exact hf rfl
theorem gs_for {fi : FI} {gt : FG} {b : FS} (I : Nat → PEnv → Prop) (hi : fi ρ = .ok (ds, ρ1)) (h0 : I 0 ρ1) (hs : ∀ i d ρ, ds[i]? = some d → I i ρ → ∃ ρ1, gt (.fz d) ρ = .ok ρ1 ∧ Go (b ρ1) (I (i + 1)) (I (i + 1)) T) (hN : ∀ ρ', I ds.length ρ' → Go (g ρ') N C T) : Go (sSeq (sFor fi gt b) g ρ) N C T :=
  go_seq (go_for I hi h0 hs hN)
theorem compP_map {gt : FG} {ft : FT} {fe : FE} (I : PEnv → Prop) (P : Nat → D → Prop) : ∀ (ds : List D) (k : Nat) (ρ : PEnv) (acc : List D), I ρ → acc.length + ds.length ≤ 1000000 → (∀ i d, ds[i]? = some d → ∀ ρ, I ρ → ∃ x ρ', compT gt ft fe d ρ = .ok (some x, ρ') ∧ I ρ' ∧ P (k + i) x) →
    ∃ xs, compP gt ft fe ds ρ acc = .ok (acc ++ xs) ∧ xs.length = ds.length ∧ ∀ i x, xs[i]? = some x → P (k + i) x
  | [], k, ρ, acc, _, _, _ => ⟨[], by show Res.ok acc = _; simp, rfl, fun i x h => by simp at h⟩
  | d :: r, k, ρ, acc, h0, hl, hs => by
    obtain ⟨x, ρ', h1, h2, h3⟩ := hs 0 d rfl ρ h0
    rw [List.length_cons] at hl
    obtain ⟨xs, g1, g2, g3⟩ := compP_map I P r (k + 1) ρ' (acc ++ [x]) h2 (by rw [List.length_append]; simp; omega) fun i d' hi ρ'' hI => by
      have e : k + 1 + i = k + (i + 1) := by omega
      rw [e]
      exact hs (i + 1) d' (by simpa using hi) ρ'' hI
    refine ⟨x :: xs, ?_, by rw [List.length_cons, g2, List.length_cons], fun i y hy => ?_⟩
    · rw [compP_step h1 (by omega)]
      show compP gt ft fe r ρ' (acc ++ [x]) = _
      rw [g1, List.append_assoc]
      rfl
    · cases i with
      | zero => cases (show some x = some y from hy); exact h3
      | succ i =>
        have e : k + (i + 1) = k + 1 + i := by omega
        rw [e]
        exact g3 i y (by simpa using hy)
theorem comp_map {gt : FG} {ft : FT} {fe : FE} (I : PEnv → Prop) (P : Nat → D → Prop) (h0 : I ρ) (hl : ds.length ≤ 1000000) (hs : ∀ i d, ds[i]? = some d → ∀ ρ, I ρ → ∃ x ρ', compT gt ft fe d ρ = .ok (some x, ρ') ∧ I ρ' ∧ P i x) :
    ∃ xs, noEr (compP gt ft fe ds ρ []) = .ok xs ∧ xs.length = ds.length ∧ ∀ i x, xs[i]? = some x → P i x := by
  obtain ⟨xs, g1, g2, g3⟩ := compP_map I P ds 0 ρ [] h0 (by simpa using hl) (by simpa using hs)
  exact ⟨xs, by rw [g1]; rfl, g2, by simpa using g3⟩
theorem atI_int {α : Type} {xs : List α} {i : Int} {v : α} (h0 : 0 ≤ i) (h : xs[i.toNat]? = some v) : atI xs i = some v := atI_nn h0 h
theorem ixLi {i : Int} (h0 : 0 ≤ i) (h : ds[i.toNat]? = some d) : ixD (.list ds) (.int i) = some (.fz d) := by
  show (atI ds i).map RV.fz = _
  rw [atI_int h0 h]; rfl
theorem rng1_i {n : Int} (h0 : 0 ≤ n) (h : n ≤ 1000000) : rng1 [.int n] = some (nds (List.range n.toNat)) := by
  rw [rng1_ok (by unfold small62; omega), from_nds]
theorem pow8 : powD (.int 10) (.int 8) = some (.fz (.int (10 ^ 8))) := tr_pow (j := 8) ⟨by decide, by decide⟩
theorem pow24 : powD (.int 10) (.int 24) = some (.fz (.int (10 ^ 24))) := tr_pow (j := 24) ⟨by decide, by decide⟩
theorem ev_opb {f : D → D → Option RV} {fa fb : FE} {pa pb : PV} {dx dy : D} {b : Bool} (ha : fa ρ = .ok (pa, ρ1)) (hb : fb ρ1 = .ok (pb, ρ2)) (hx : rdD ρ2 (settle pa) = some dx) (hy : rdD ρ2 pb = some dy) (hf : f dx dy = some (.fz (.bool b))) : pOp f fa fb ρ = .ok (.fz (.bool b), ρ2) := ev_op (rv := .fz (.bool b)) ha hb hx hy hf
theorem ev_cbb {f : List D → Option RV} {fr : FA} {ps : List PV} {b : Bool} (ha : fr ρ = .ok (ps, ρ1)) (hd : rdDs ρ1 ps = some ds) (hf : f ds = some (.fz (.bool b))) : pCB f fr ρ = .ok (.fz (.bool b), ρ1) := ev_cb (rv := .fz (.bool b)) ha hd hf
theorem ev_calb {F : FN} {n : Nat} {fr : FA} {ps : List PV} {b : Bool} (ha : fr ρ = .ok (ps, ρ1)) (hd : toDs ρ1 ps = some (ds, ρ2)) (hn : ds.length = n) (hF : F ds = .ok (.fz (.bool b))) : pCal F n fr ρ = .ok (.fz (.bool b), ρ2) := ev_cal (rv := .fz (.bool b)) ha hd hn hF
theorem ev_izip {fr : FA} {ps : List PV} {e : D} {es fs : List D} (ha : fr ρ = .ok (ps, ρ1)) (hd : toDs ρ1 ps = some ([d, e], ρ2)) (hs : asSeq d = some es) (ht : asSeq e = some fs) : iZip fr ρ = .ok (zipD es fs, ρ2) := by
  unfold iZip
  rw [ha, Res.bind_ok, hd, ofO_some, Res.bind_ok]
  dsimp only
  rw [hs, ofO_some, Res.bind_ok, ht, ofO_some, Res.bind_ok]
theorem ev_chain {f g : D → D → Option RV} {fa fb fc : FE} {pa pb pc : PV} {dx dy dz : D} {b1 b2 : Bool} (ha : fa ρ = .ok (pa, ρ)) (hb : fb ρ = .ok (pb, ρ)) (hc : fc ρ = .ok (pc, ρ)) (hx : rdD ρ (settle pa) = some dx) (hy : rdD ρ (settle pb) = some dy) (hz : rdD ρ pc = some dz) (hf : f dx dy = some (.fz (.bool b1))) (hg : b1 = true → g dy dz = some (.fz (.bool b2))) : pChain f g fa fb fc ρ = .ok (.fz (.bool (b1 && b2)), ρ) := by
  unfold pChain
  rw [ha, Res.bind_ok, hb, Res.bind_ok]
  dsimp only
  rw [hx, ofO_some, Res.bind_ok, hy, ofO_some, Res.bind_ok, hf, ofO_some, Res.bind_ok]
  cases b1 with
  | false => rfl
  | true =>
    dsimp only
    rw [hc, Res.bind_ok]
    dsimp only
    rw [hy, ofO_some, Res.bind_ok, hz, ofO_some, Res.bind_ok, hg rfl, ofO_some, Res.bind_ok]
    rfl
end
end L3
namespace L3
open PySem PySem.Spec PyProof.Rows L2 PySem.Builtin PySem.Builtin.Str
section
variable {X : Cx}
theorem val_s {z : Str} {u : Value} (h : RelV (.str z) u) : ∃ t, u = .str z t := h
noncomputable def rSlS : V → Option Int → Option Int → Hp → VK → Prop := fun x lo hi H Q => ∃ z, x = .str z ∧ z.length ≤ sizeLine ∧ Q (.str (Txt.slice z lo hi)) H
theorem sl_str : SlR X rSlS := by
  rintro pins s σ H x v vl vu lo hi sl Q I rx hs pl pu ⟨z, rfl, hz, q⟩
  obtain ⟨t, rfl⟩ := val_s rx
  refine ⟨"str", _, F.slot_str_getitem.lookup, typeIs_str _ _ _, ?_⟩
  have fin : (Txt.slice z lo hi).length ≤ sizeLine ∧ ∀ t' k, EP X pins σ Q (.str (Txt.slice z lo hi) t') { s with toks := k } := ⟨Nat.le_trans (Txt.slice_le z _ _) hz, fun t' k => ⟨.str _, H, I.tok k, ⟨_, rfl⟩, q⟩⟩
  cases pl with
  | none => cases pu with
    | none => exact wpAny_getItem_str_slice (l := none) (u := none) (st := none) hs rfl (post_val_or_str fin)
    | int j u => exact wpAny_getItem_str_slice (l := none) (u := some (j, u)) (st := none) hs rfl (post_val_or_str fin)
  | int i u => cases pu with
    | none => exact wpAny_getItem_str_slice (l := some (i, u)) (u := none) (st := none) hs rfl (post_val_or_str fin)
    | int j u' => exact wpAny_getItem_str_slice (l := some (i, u)) (u := some (j, u')) (st := none) hs rfl (post_val_or_str fin)
end
end L3
namespace L3
open PySem PySem.Spec PyProof.Rows L2 PySem.Builtin PySem.Builtin.Str
section
variable {X : Cx}
noncomputable def Its (x : Str) : It := ⟨fun i _ => i < x.cps.size, fun i H v H' => ∃ c, x.cps[i]? = some c ∧ v = .str ⟨#[c]⟩ ∧ H' = H, fun i _ => i = x.cps.size⟩
theorem turn_sign {P : Program} {w : World} {K : PySem.W.Frag} {tg : Expr} (x : Str) (t : Tok) (it : Addr) (ty : String)
    (hn : ["enumerate", "zip", "dict_itemiterator", "dict_reverseitemiterator", "odict_iterator", "itertools.zip_longest", "itertools.pairwise"].contains ty = false)
    (W : ∀ A : Around, A.handled = none → Walks P w A it [it] [it] x.cps.size (SignAt x) (fun i h => h.IsStrIter it ty x t i)) (self : ∀ (A : Around) (i : Nat) (s : Shared) (Q : Value → Shared → Prop) (E : Value → Shared → Prop), s.heap.IsStrIter it ty x t i → Q (.ref it) s → wpAny (model P w) A (pyIter (.ref it)) Q E s) :
    Turn P w K tg (Its x) [it] it (fun i h => h.IsStrIter it ty x t i) where
  mem := by simp
  obj := fun i h st b hb => by
    have e : b = it := by simpa using hb
    subst e
    obtain ⟨o, e, c, d⟩ := st
    exact ⟨o, e, fun v z => by rw [d] at z; cases z⟩
  keep := fun i h h' st k => by
    obtain ⟨o, e, r⟩ := st
    exact ⟨o, k it (by simp) o e, r⟩
  item := by
    intro X hP hw hK hc i pins s σ H E I hf st hg
    subst hP hw hK
    obtain ⟨f0, f1, f2, f3, f4, f5⟩ := hf it (by simp)
    refine (W X.A (I.ok.hd hc)).item i s _ _ hg st fun v h' tk hv st' kp => ?_
    obtain ⟨c, u, hcc, rfl⟩ := hv
    have I1 : L2.Inv X pins σ H { s with heap := h', toks := tk } := I.turned (t' := tk) (fun b o hb e => kp b o (by simpa using hb) e) f0 f1 f3 f4 f5
    obtain ⟨o, e, cl, d⟩ := id st'
    exact ⟨_, rfl, go_of (s := { s with heap := h', toks := tk }) e cl d hn ⟨.str ⟨#[c]⟩, H, I1, ⟨u, rfl⟩, ⟨c, hcc, rfl, rfl⟩, st', fun b hb => (hf b hb).1⟩⟩
  done := by
    intro X hP hw hK hc i pins s σ H E I hf st hg
    subst hP hw hK
    have hg : i = x.cps.size := hg
    subst hg
    obtain ⟨f0, f1, f2, f3, f4, f5⟩ := hf it (by simp)
    exact (W X.A (I.ok.hd hc)).done s _ _ st fun h' tk kp => ⟨rfl, I.turned (t' := tk) (fun b o hb e => kp b o (by simpa using hb) e) f0 f1 f3 f4 f5⟩
  self := fun A i s Q E st h => self A i s Q E st h
noncomputable def iStrT (te : TE) : TI := fun σ H R => te σ H fun x H1 => ∃ z, x = .str z ∧ R (Its z) H1
theorem pi_str {tg l : Expr} {tl : TE} (hl : PE X l tl) : PI X tg l (iStrT tl) := by
  intro pins s σ H R I h
  refine thn (hl pins s σ H _ I h) fun v s1 ⟨y, H1, I1, r1, z, e, q⟩ => ?_
  subst e
  obtain ⟨t, rfl⟩ := val_s r1
  have fp : ∀ b ∈ [s1.heap.objs.size], FpOk X pins H1 b := fun b hb => by
    have e : b = s1.heap.objs.size := by simpa using hb
    subst e
    exact I1.fpOk (Nat.le_refl _) (I1.hok.fresh (Nat.le_refl _))
  cases ha : z.cps.all (· < 128) with
  | false =>
    refine wpAny_pyIter_wide ha ?_
    exact ⟨s1.heap.objs.size, [s1.heap.objs.size], _, _, H1, rfl, I1.kept (t' := s1.toks) fun b o e => Heap.get?_push_of_some _ e, turn_sign z t _ "str_iterator" (by decide) (fun A hA => Walks.strWide hA _ z t) (fun _ _ _ _ _ st h => wpAny_pyIter_striter_wide st h), ⟨_, Heap.get?_push_size _ rfl, rfl, rfl⟩, fp, q⟩
  | true =>
    refine wpAny_pyIter_ascii ha ?_
    exact ⟨s1.heap.objs.size, [s1.heap.objs.size], _, _, H1, rfl, I1.kept (t' := s1.toks) fun b o e => Heap.get?_push_of_some _ e, turn_sign z t _ "str_ascii_iterator" (by decide) (fun A hA => Walks.strAscii hA _ z t) (fun _ _ _ _ _ st h => wpAny_pyIter_striter_ascii st h), ⟨_, Heap.get?_push_size _ rfl, rfl, rfl⟩, fp, q⟩
end
end L3
namespace L3
open PySem PySem.Spec PyProof.Rows L2 PySem.Builtin PySem.Builtin.Str
section
variable {X : Cx}
end
end L3
namespace L3
open PySem PySem.Spec PyProof.Rows L2 PySem.Builtin PySem.Builtin.Str
section
variable {K : PySem.W.Frag} {E : XK} {B O O' : Own} {H0 H H' : Hp} {σ : L2.St} {ρ ρ' : PEnv} {v : V}
noncomputable def asStr : PV → Option Str
  | .fz (.str z) => some z
  | _ => none
theorem asStr_ok {pv : PV} {z : Str} (p : PvOk K H0 O σ H ρ v pv) (e : asStr pv = some z) : v = .str z := by
  unfold asStr at e
  split at e
  · cases e
    cases (show DV O K H v (.str z) from p)
    rfl
  · cases e
noncomputable def sliceS : D → Option Int → Option Int → Option RV
  | .str z, lo, hi => if z.length ≤ 1000000 then some (.fz (.str (Txt.slice z lo hi))) else none
  | _, _, _ => none
theorem slp_str : SlP K rSlS sliceS := by
  intro O H x lo hi dx rv Q n hx e q
  unfold sliceS at e
  split at e
  · split at e
    · rename_i hl
      cases e
      cases hx
      exact ⟨_, rfl, le1e6 hl, q.at (.str _)⟩
    · cases e
  · cases e
noncomputable def addS : D → D → Option RV
  | .str i, .str j => if i.length + j.length ≤ 1000000 then some (.fz (.str (i ++ j))) else none
  | _, _ => none
theorem opp_addS : OpP K (fun x y H Q => ∃ i j, x = .str i ∧ y = .str j ∧ i.length + j.length ≤ sizeLine ∧ Q (.str (i ++ j)) H) addS := by
  intro O H x y dx dy rv Q n hx hy e q
  unfold addS at e
  split at e
  · split at e
    · rename_i hl
      cases e
      cases hx; cases hy
      exact ⟨_, _, rfl, rfl, le1e6 hl, q.at (.str _)⟩
    · cases e
  · cases e
noncomputable def signsD (z : Str) : List D := z.cps.toList.map fun c => .str ⟨#[c]⟩
noncomputable def iSigns (fe : FE) : FI := fun ρ => (fe ρ).bind fun a => (Res.ofO (asStr a.1)).bind fun z => .ok (signsD z, a.2)
theorem it_signs {z : Str} : ItOk K (Its z) O H (signsD z) := by
  intro O' H' e n
  have hl : (signsD z).length = z.cps.size := by unfold signsD; rw [List.length_map, Array.length_toList]
  rw [hl]
  refine ⟨fun i hi => ⟨hi, ?_⟩, rfl⟩
  rintro x H'' ⟨c, hc, rfl, rfl⟩
  refine ⟨Same.refl _, .str ⟨#[c]⟩, ?_, .str _⟩
  unfold signsD
  rw [List.getElem?_map, Array.getElem?_toList, hc]
  rfl
theorem io_signs {tl : TE} {fe : FE} (h : EO K E tl fe) : IO K E (iStrT tl) (iSigns fe) := by
  intro B H0 O σ H ρ R' R w
  refine h B H0 O σ H ρ _ R (w.bind.imp fun a w1 O1 x H1 e1 R1 p1 => ?_)
  obtain ⟨z, qz, w1⟩ := w1.ofO
  obtain rfl := asStr_ok p1 qz
  exact ⟨z, rfl, w1 O1 _ H1 e1 R1 it_signs⟩
end
end L3
namespace PySem
open Sem (wp)
open AutoSeq1 (wpAny_loadPart')
open Builtin Builtin.Str
section
variable {prog : Program} {w : World} {A : Around} {E : Value → Shared → Prop} {s : Shared}
end
section
variable {prog : Program} {w : World} {A : Around} {E : Value → Shared → Prop} {s : Shared}
end
end PySem
namespace PySem
open Sem (wp)
open Builtin Builtin.Str
section
variable {M : Model} {A : Around} {E : Value → Shared → Prop} {s : Shared} {env : Env}
end
end PySem
namespace L3
open PySem PySem.Spec PyProof.Rows L2 PySem.Builtin
section
variable {K : PySem.W.Frag} {E : XK} {B O O' : Own} {H0 H H' : Hp} {σ : L2.St} {ρ ρ' : PEnv} {v : V}
end
end L3
namespace L3
open PySem L2
end L3
namespace L2
open PySem PySem.Spec PyProof.Rows
section
variable {X : Cx}
end
end L2
namespace L3
open PySem PySem.Spec L2
section
variable {K : PySem.W.Frag} {E : XK}
end
end L3
namespace L2
open PySem PySem.Spec PyProof.Rows
section
variable {κ : Type} [DecidableEq κ]
end
section
variable {P : Program} {w : World} {H : Hp} {h : Heap} {a : Addr}
end
section
variable {X : Cx} {pins : List (Addr × Obj)} {σ : St} {H : Hp} {s : Shared} {a : Addr} {y v : V} {u r : Value} {o : Option V} {A : Around} {E : Value → Shared → Prop}
end
section
variable {X : Cx} {pins : List (Addr × Obj)} {σ : St} {H : Hp} {s : Shared} {a : Addr} {kvs : List (Key × V)} {k : Key} {u : Value} {A : Around} {E : Value → Shared → Prop}
end
section
variable {X : Cx} {o i e value : Expr} {pos pos' tpos : Pos} {td ty tv : TE}
end
section
variable {X : Cx} {pos : Pos}
end
structure M1 (X : Cx) (o : Expr) (m : Str) (apos : Pos) (e : Expr) (cpos : Pos) : Prop where
  base : attributeBase o m X.env (eval o X.env) = eval o X.env
  few : ((backTo cpos (starEach [e] X.env)).all (fun x => !x.1) && (backToKw cpos (keywordEach [] X.env)).all (fun x => x.1.isSome)
    && decide (([e] : List Expr).length + ([] : List Keyword).length + (if ([] : List Keyword).isEmpty then 0 else 1) < 30)) = true
  line : (apos.endLine == cpos.line) = true
  trees : backTo cpos (starEach [e] X.env) = [(false, eval e X.env)]
structure M2 (X : Cx) (o : Expr) (m : Str) (apos : Pos) (e f : Expr) (cpos : Pos) : Prop where
  base : attributeBase o m X.env (eval o X.env) = eval o X.env
  few : ((backTo cpos (starEach [e, f] X.env)).all (fun x => !x.1) && (backToKw cpos (keywordEach [] X.env)).all (fun x => x.1.isSome)
    && decide (([e, f] : List Expr).length + ([] : List Keyword).length + (if ([] : List Keyword).isEmpty then 0 else 1) < 30)) = true
  line : (apos.endLine == cpos.line) = true
  trees : backTo cpos (starEach [e, f] X.env) = [(false, eval e X.env), (false, eval f X.env)]
section
variable {X : Cx} {pins : List (Addr × Obj)} {σ : St} {H : Hp} {s : Shared} {a : Addr} {y d : V} {u r : Value} {o : Option V} {A : Around} {E : Value → Shared → Prop}
end
section
variable {X : Cx} {o e f : Expr} {apos cpos : Pos} {td ty tx : TE}
end
section
variable {X : Cx} {pins : List (Addr × Obj)} {σ : St} {H : Hp} {s : Shared} {a : Addr} {kvs : List (Key × V)} {A : Around} {E : Value → Shared → Prop}
end
section
variable {X : Cx} {pins : List (Addr × Obj)} {σ : St} {H : Hp} {s : Shared} {a : Addr} {y : V} {u : Value} {A : Around} {E : Value → Shared → Prop}
end
end L2
namespace L2
open PySem PySem.Spec PyProof.Rows
section
variable {X : Cx}
end
section
variable {κ : Type} [DecidableEq κ]
end
end L2
namespace HT
open PySem PySem.Spec PyProof.Rows PySem.Calls
section
variable {prog : Program} {w : World} {A : Around} {E : Value → Shared → Prop} {s : Shared}
end
end HT
namespace L2
open PySem PySem.Spec PyProof.Rows
end L2
namespace PySem
open Sem (wp)
open Builtin
open AutoSeq1 (wpAny_loadPart')
end PySem
namespace L3
open PySem PySem.Spec PyProof.Rows L2
noncomputable def rCat0 (K : PySem.W.Frag) : R2 := fun x y H Q => ∃ (a b : Addr) (ys : List V), x = .ref a ∧ y = .ref b ∧ SqT K H a [] ∧ SqT K H b ys ∧ Q (.ref b) H
theorem op_cat0 {X : Cx} : OpR X (binaryOp .Add) (rCat0 X.K) := by
  intro pins s σ H x y v u Q I rx ry h
  obtain ⟨a, b, ys, rfl, rfl, ha, hb, q⟩ := h
  cases rx
  cases ry
  obtain ⟨its, r1, p1, _⟩ := I.tuple ha
  obtain ⟨its2, r2, p2, _⟩ := I.tuple hb
  cases r1
  obtain ⟨⟨cls, dd, data, sl⟩, ho, hc, n, hd⟩ := id p1
  obtain ⟨⟨cls2, dd2, data2, sl2⟩, ho2, hc2, n2, hd2⟩ := id p2
  simp only at hc hd hc2 hd2
  subst hc hd hc2 hd2
  exact concat_meets ⟨_, ho, rfl⟩ ⟨_, ho2, rfl⟩ noFill_tuple_add seq_tuple_add PySem.F.slot_tuple_add PySem.F.entry_tuple_add (PySem.F.args_tuple_add_2 _ _)
    (tuple_addW0 a b _ its2.toArray n n2 dd dd2 sl sl2 rfl) ⟨ho, ho2, ⟨.ref b, H, I, rfl, q⟩⟩
noncomputable def rAddB (K : PySem.W.Frag) : R2 := fun x y H Q => rAddA K x y H Q ∨ rCat0 K x y H Q
theorem op_addB {X : Cx} : OpR X (binaryOp .Add) (rAddB X.K) := OpR.or op_addA op_cat0
noncomputable def addE : D → D → Option RV
  | .tuple [], .tuple ys => some (.fz (.tuple ys))
  | d, e => addD d e
theorem opp_addE {K : PySem.W.Frag} : OpP K (rAddB K) addE := by
  intro O H x y dx dy rv Q n hx hy e q
  unfold addE at e
  split at e
  · cases e
    obtain ⟨a, xs, rfl, h1, h2⟩ := DXt hx
    obtain ⟨b, ys, rfl, g1, g2⟩ := DXt hy
    cases h2
    exact .inr ⟨a, b, ys, rfl, rfl, h1.1, g1.1, q.at (.tup g1 g2)⟩
  · exact .inl (opp_add O H x y dx dy rv Q n hx hy e q)
end L3
namespace L4
open PySem PySem.Spec PyProof.Rows L2 L3
noncomputable def Flt (h : Heap) (e : Addr) (c : Value) (dx : Option Addr) (a0 : Value) (hd : Option Addr) : Prop :=
  ∃ ob fs, h.get? e = some ob ∧ ob.cls = c ∧ ob.dict = dx ∧ ob.data = .fields fs ∧ fs[0]? = some a0 ∧
    match hd with
    | none => fs[1]? = some .none
    | some T => fs[1]? = some (.ref T) ∧ T ≠ e ∧ ∃ oT ts, h.get? T = some oT ∧ oT.data = .fields ts ∧ ts[3]? = some .none
structure Lft (l : List Env) (e : Addr) (hd : Option Addr) (h h' : Heap) : Prop where
  keep : ∀ b o, h.get? b = some o → b ≠ e → hd ≠ some b → b ∉ frs l → h'.get? b = some o
  slot : ∀ b o, h.get? b = some o → b ≠ e → hd ≠ some b → ∃ sl, h'.get? b = some { o with slots := sl }
  here : ∀ b o, h.get? b = some o → ∃ o', h'.get? b = some o'
section
variable {M : Model} {A : Around} {E : Value → Shared → Prop} {s : Shared}
theorem entry_tail {base : Heap} {env : Env} {outer : List Env} {L e : Addr} {ob : Obj} {fs : Array Value} {hv a0 : Value} {nx : Bool} {Q : Unit → Shared → Prop}
    (hA : A.frames = some (env :: outer)) (hF : s.heap.FunFrames base (env :: outer)) (hL : env.frame = some L) (hE : s.heap.get? e = some ob) (hD : ob.data = .fields fs) (hZ : 1 < fs.size) (h0 : fs[0]? = some a0)
    (k : ∀ h' T, s.heap.objs.size ≤ T → Flt h' e ob.cls ob.dict a0 (some T) → Lft (env :: outer) e none s.heap h' → Q () { s with heap := h' }) :
    wpAny M A (frameOf env >>= fun fr => entryPlaceOf L nx >>= fun pl => EntryCells.newEntry hv fr .none (rawInt L) .none pl >>= fun b => setField (.ref e) 1 b) (fun _ s' => wpAny M A (setFlight (.ref e) none) Q E s') E s := by
  have nfr : e ∉ (env :: outer).filterMap (·.frame) := fun z => by
    obtain ⟨_, o, q, n⟩ := hF.mem z
    rw [hE] at q
    cases q
    exact n fs hD
  refine wpAny_bind (wpAny_frameOf_fun hA hF hL fun h1 S => ?_)
  refine wpAny_bind (wpAny_entryPlaceOf fun pl P => ?_)
  unfold EntryCells.newEntry newFields
  refine wpAny_bind (wpAny_newObj_type ?_ (P.sizeOk5 _ _ _ _ _))
  have q1 : h1.get? e = some ob := (S.2.1 e nfr).trans hE
  generalize hN : ({ cls := .type "traceback", dict := none, data := .fields ([hv, .ref L, .none, rawInt L, .none] ++ (if pl.isEmpty then List.replicate 6 Value.none else pl)).toArray } : Obj) = N
  have dN : N.data = .fields ([hv, .ref L, .none, rawInt L, .none] ++ (if pl.isEmpty then List.replicate 6 Value.none else pl)).toArray := by rw [← hN]
  have fN : N.isFreed = false := Obj.isFreed_of_fields dN
  have q2 : (h1.push N).get? e = some ob := Heap.get?_push_of_some N q1
  refine wpAny_setField q2 hD hZ ?_
  have nT : h1.objs.size ≠ e := Nat.ne_of_gt (Heap.lt_size q1)
  have d3 := Obj.data_mapFields hD (·.setIfInBounds 1 (Value.ref h1.objs.size))
  have q3 := Heap.get?_update_self (Obj.mapFields (·.setIfInBounds 1 (Value.ref h1.objs.size))) q2 (Obj.isFreed_of_fields d3)
  have t3 : ((h1.push N).update e (Obj.mapFields (·.setIfInBounds 1 (Value.ref h1.objs.size)))).get? h1.objs.size = some N :=
    (Heap.get?_update_other (h1.push N) (Obj.mapFields (·.setIfInBounds 1 (Value.ref h1.objs.size))) nT.symm).trans (Heap.get?_push_size h1 fN)
  unfold setFlight
  refine wpAny_bind (wpAny_field q3 d3 (x := .ref h1.objs.size) (by simp [hZ]) ?_)
  rw [if_pos (show (Value.ref h1.objs.size != Value.none) = true from by simp)]
  have tz : 3 < ([hv, .ref L, .none, rawInt L, .none] ++ (if pl.isEmpty then List.replicate 6 Value.none else pl)).toArray.size := by
    simp only [List.size_toArray, List.length_append, List.length_cons, List.length_nil]
    omega
  refine wpAny_setField t3 dN tz ?_
  have q4 := Heap.get?_update_other ((h1.push N).update e (Obj.mapFields (·.setIfInBounds 1 (Value.ref h1.objs.size)))) (Obj.mapFields (·.setIfInBounds 3 ((none : Option Addr).elim Value.none fun f => rawInt f))) nT
  have t4 := Heap.get?_update_self (Obj.mapFields (·.setIfInBounds 3 ((none : Option Addr).elim Value.none fun f => rawInt f))) t3 (Obj.isFreed_of_fields (Obj.data_mapFields dN _))
  have stay : ∀ b o, b ≠ e → h1.get? b = some o → (((h1.push N).update e (Obj.mapFields (·.setIfInBounds 1 (Value.ref h1.objs.size)))).update h1.objs.size (Obj.mapFields (·.setIfInBounds 3 ((none : Option Addr).elim Value.none fun f => rawInt f)))).get? b = some o := fun b o ne q => by
    rw [Heap.get?_update_other _ _ (Nat.ne_of_gt (Heap.lt_size q)), Heap.get?_update_other _ _ ne.symm]
    exact Heap.get?_push_of_some N q
  refine k _ h1.objs.size (by rw [S.1]; exact Nat.le_refl _) ⟨_, _, q4.trans q3, Obj.cls_mapFields _ _, ?_, d3, ?_, ?_, nT, _, _, t4, Obj.data_mapFields dN _, ?_⟩ ⟨fun b o q ne _ nf => stay b o ne ((S.2.1 b nf).trans q), fun b o q ne _ => ?_, fun b o q => ?_⟩
  · cases ob with
    | mk c d dt sl => cases dt <;> rfl
  · rw [Array.getElem?_setIfInBounds_ne (by decide)]
    exact h0
  · simp [hZ]
  · rw [Array.getElem?_setIfInBounds_self_of_lt tz]
    rfl
  · obtain ⟨sl, z⟩ := S.2.2 b o q
    exact ⟨sl, stay b _ ne z⟩
  · by_cases ne : b = e
    · subst ne
      exact ⟨_, q4.trans q3⟩
    · obtain ⟨sl, z⟩ := S.2.2 b o q
      exact ⟨_, stay b _ ne z⟩
theorem leaving_S {base : Heap} {env : Env} {outer : List Env} {L e : Addr} {c a0 : Value} {dx hd : Option Addr} {Q : Unit → Shared → Prop}
    (hA : A.frames = some (env :: outer)) (hF : s.heap.FunFrames base (env :: outer)) (hL : env.frame = some L) (F : Flt s.heap e c dx a0 hd)
    (k : ∀ h' T, s.heap.objs.size ≤ T → Flt h' e c dx a0 (some T) → Lft (env :: outer) e hd s.heap h' → Q () { s with heap := h' }) : wpAny M A (leaving env (.ref e)) Q E s := by
  obtain ⟨ob, fs, q, hc, hx, d, h0, r⟩ := F
  subst hc hx
  cases hd with
  | none =>
    have r : fs[1]? = some .none := r
    unfold leaving noteFrame
    simp only [hL]
    refine wpAny_bind (wpAny_bind (wpAny_field q d r ?_))
    rw [if_neg (by decide)]
    exact entry_tail hA hF hL q d (Array.getElem?_eq_some_iff.mp r).1 h0 k
  | some T =>
    obtain ⟨r, nT, oT, ts, qT, dT, r3⟩ := r
    unfold leaving noteFrame
    simp only [hL]
    refine wpAny_bind (wpAny_bind (wpAny_field q d r ?_))
    rw [if_pos (show (Value.ref T != Value.none) = true from by simp)]
    refine wpAny_bind (wpAny_field qT dT r3 ?_)
    rw [if_neg (show ¬ ((Value.none == rawInt L) = true) from by simp [rawInt])]
    refine wpAny_bind (wpAny_setField qT dT (Array.getElem?_eq_some_iff.mp r3).1 ?_)
    have oth : ∀ b, b ≠ T → (s.heap.update T (Obj.mapFields (·.setIfInBounds 3 Value.none))).get? b = s.heap.get? b := fun b ne => Heap.get?_update_other _ _ ne.symm
    have self := Heap.get?_update_self (Obj.mapFields (·.setIfInBounds 3 Value.none)) qT (Obj.isFreed_of_fields (Obj.data_mapFields dT _))
    have nrec : ∀ b o, s.heap.get? b = some o → (∀ vs, o.data ≠ .fields vs) → b ≠ T := fun b o z n y => by
      rw [y, qT] at z
      cases z
      exact n ts dT
    refine entry_tail hA (hF.of_keeps fun b o z n => ⟨o, (oth b (nrec b o z n)).trans z, rfl⟩) hL ((oth e nT.symm).trans q) d (Array.getElem?_eq_some_iff.mp r).1 h0 fun h' T' hs F' L' => k h' T' (by rw [Heap.size_after_update] at hs; exact hs) F' ⟨fun b o z n1 n2 n3 => ?_, fun b o z n1 n2 => ?_, fun b o z => ?_⟩
    · exact L'.keep b o ((oth b fun y => n2 (by rw [y])).trans z) n1 (by simp) n3
    · exact L'.slot b o ((oth b fun y => n2 (by rw [y])).trans z) n1 (by simp)
    · by_cases y : b = T
      · subst y
        exact L'.here b _ self
      · exact L'.here b o ((oth b y).trans z)
end
theorem Lft.hok {P : Program} {w : World} {l : List Env} {e : Addr} {hd : Option Addr} {H : Hp} {h h' : Heap} (L : Lft l e hd h h') (hk : HOk P w H h) (ne : H e = none) (nh : ∀ T, hd = some T → H T = none) (nf : ∀ b ∈ frs l, H b = none) : HOk P w H h' := fun b u q => by
  have free : ∀ c v, H c = some v → c ≠ e ∧ hd ≠ some c ∧ c ∉ frs l := fun c v z => ⟨(fun y => by rw [y, ne] at z; cases z), (fun y => by rw [nh c y] at z; cases z), (fun y => by rw [nf c y] at z; cases z)⟩
  refine (hk b u q).stay (fun c v hc z => ?_) (fun _ z => z) fun _ _ z => z
  rcases hc with y | y
  · rw [y] at z ⊢
    obtain ⟨n1, n2, n3⟩ := free b u q
    exact L.keep b v z n1 n2 n3
  · obtain ⟨n1, n2, n3⟩ := free c _ y
    exact L.keep c v z n1 n2 n3
noncomputable def CXe (P : Program) (w : World) : CXT := fun outer H s E x s' =>
  ∃ e c dx a0 T H', x = .ref e ∧ s.heap.get? e = none ∧ s.heap.get? T = none ∧ Flt s'.heap e c dx a0 (some T) ∧ H' e = none ∧ H' T = none ∧
    s'.os = s.os ∧ AllBare s'.gens ∧ Un (frs outer) [] H H' s.heap s'.heap ∧ HOk P w H' s'.heap ∧ E c dx H'
theorem xe_of {P : Program} {w : World} {K : PySem.W.Frag} {mg : Str → Option Value} {base : Heap} {N : List Str} {qual : Str} {scope : Scope} {f : Addr} {cd : Value} {A : Around} {outer : List Env} {s0 : Shared} {H0 : Hp} {E : XK}
    {pins : List (Addr × Obj)} {σ : L2.St} {H : Hp} {s : Shared} {e : Addr} {c a0 : Value} {dx hd : Option Addr} (I : L2.Inv (cxOf (CXe P w) P w K mg base N qual scope f cd A outer s0 H0 E) pins σ H s)
    (F : Flt s.heap e c dx a0 hd) (he : s0.heap.get? e = none) (hh : ∀ T, hd = some T → s0.heap.get? T = none) (ne : H e = none) (nh : ∀ T, hd = some T → H T = none) (q : E c dx H) :
    (cxOf (CXe P w) P w K mg base N qual scope f cd A outer s0 H0 E).xe (.ref e) s := by
  have hA := I.ok.frames
  have hF := I.stack
  refine leaving_S (L := s0.heap.objs.size) hA hF rfl F fun h' T hs F' L => ?_
  have hk := L.hok I.hok ne nh I.stkFree
  have hT : H T = none := I.hok.fresh hs
  have lt0 : ∀ b o, s0.heap.get? b = some o → b < s0.heap.objs.size := fun b o z => Heap.lt_size z
  have far : ∀ b o, s0.heap.get? b = some o → b ≠ e ∧ hd ≠ some b := fun b o z => ⟨(fun y => by rw [y, he] at z; cases z), (fun y => by rw [hh b y] at z; cases z)⟩
  have sz := I.sz
  refine ⟨e, c, dx, a0, T, H, rfl, he, Heap.get?_none_of_le (Nat.le_trans sz hs), F', ne, hT, I.os, I.bare, ?_, hk, q⟩
  have B := I.base
  refine ⟨fun b o z n nf _ => ?_, fun b o z n hf _ => ?_, fun b o z n _ => ?_, fun b o z _ => ?_, B.tups, B.frzs, B.tbls⟩
  · have z1 := B.keep b o z n nf (fun y => nomatch y)
    refine L.keep b o z1 (far b o z).1 (far b o z).2 fun y => ?_
    rcases List.mem_cons.mp (I.stkSub b y) with y | y
    · have y : b = s0.heap.objs.size := y
      exact absurd (lt0 b o z) (by rw [y]; exact Nat.lt_irrefl _)
    · exact nf y
  · obtain ⟨sl, z1⟩ := B.slot b o z n hf (fun y => nomatch y)
    obtain ⟨sl', z2⟩ := L.slot b _ z1 (far b o z).1 (far b o z).2
    exact ⟨sl', z2⟩
  · exact B.free b o z n (fun y => nomatch y)
  · obtain ⟨o', z1⟩ := B.there b o z (fun y => nomatch y)
    exact L.here b o' z1
theorem ok_get {P : Program} {w : World} {H : Hp} {h : Heap} {a : Addr} {o : HO} (x : ObjOk P w H h a o) : ∃ ob, h.get? a = some ob := by
  cases o with
  | lst xs => obtain ⟨_, _, _, _, e⟩ := x; exact ⟨_, e⟩
  | tup xs => obtain ⟨_, _, _, ob, e, _⟩ := x; exact ⟨ob, e⟩
  | dK kvs => obtain ⟨_, _, _, _, o, _, _, e, _⟩ := x; exact ⟨o, e⟩
  | dT kvs => obtain ⟨_, _, _, _, o, _, _, e, _⟩ := x; exact ⟨o, e⟩
  | set S n => obtain ⟨o, _, _, _, e, _⟩ := x; exact ⟨o, e⟩
  | ins C dx fs => obtain ⟨_, _, _, e, _⟩ := x; exact ⟨_, e⟩
  | own y => exact x
  | xd fs => obtain ⟨_, ⟨o, _, _, e, _⟩, _⟩ := x; exact ⟨o, e⟩
  | rng lo hi => obtain ⟨_, _, _, e⟩ := x; exact ⟨_, e⟩
  | frz ob u => exact ⟨ob, x.1⟩
  | tbl ps => exact ⟨_, x⟩
  | met f y => exact ⟨_, x⟩
  | ext φ => exact x.2.1
theorem hok_none {P : Program} {w : World} {H : Hp} {h : Heap} (k : HOk P w H h) {a : Addr} (n : h.get? a = none) : H a = none := by
  cases q : H a with
  | none => rfl
  | some o =>
    obtain ⟨ob, z⟩ := ok_get (k a o q)
    rw [n] at z
    cases z
end L4
namespace L4
open PySem PySem.Spec PyProof.Rows L2 L3
section
variable {M : Model} {A : Around} {E : Value → Shared → Prop} {s : Shared}
theorem catch_S {base : Heap} {env : Env} {outer : List Env} {L e : Addr} {c a0 : Value} {dx hd : Option Addr} {Q : Unit → Shared → Prop}
    (hA : A.frames = some (env :: outer)) (hF : s.heap.FunFrames base (env :: outer)) (hL : env.frame = some L) (F : Flt s.heap e c dx a0 hd)
    (k : ∀ h' T, s.heap.objs.size ≤ T → Flt h' e c dx a0 (some T) → Lft (env :: outer) e hd s.heap h' → Q () { s with heap := h' }) :
    wpAny M A (noteFrame (.ref e) env) (fun _ s2 => wpAny M A (setFlight (.ref e) none) Q E s2) E s := by
  obtain ⟨ob, fs, q, hc, hx, d, h0, r⟩ := F
  subst hc hx
  cases hd with
  | none =>
    have r : fs[1]? = some .none := r
    unfold noteFrame
    simp only [hL]
    refine wpAny_bind (wpAny_field q d r ?_)
    rw [if_neg (by decide)]
    exact entry_tail hA hF hL q d (Array.getElem?_eq_some_iff.mp r).1 h0 k
  | some T =>
    obtain ⟨r, nT, oT, ts, qT, dT, r3⟩ := r
    unfold noteFrame
    simp only [hL]
    refine wpAny_bind (wpAny_field q d r ?_)
    rw [if_pos (show (Value.ref T != Value.none) = true from by simp)]
    refine wpAny_bind (wpAny_field qT dT r3 ?_)
    rw [if_neg (show ¬ ((Value.none == rawInt L) = true) from by simp [rawInt])]
    refine wpAny_bind (wpAny_setField qT dT (Array.getElem?_eq_some_iff.mp r3).1 ?_)
    have oth : ∀ b, b ≠ T → (s.heap.update T (Obj.mapFields (·.setIfInBounds 3 Value.none))).get? b = s.heap.get? b := fun b ne => Heap.get?_update_other _ _ ne.symm
    have self := Heap.get?_update_self (Obj.mapFields (·.setIfInBounds 3 Value.none)) qT (Obj.isFreed_of_fields (Obj.data_mapFields dT _))
    have nrec : ∀ b o, s.heap.get? b = some o → (∀ vs, o.data ≠ .fields vs) → b ≠ T := fun b o z n y => by
      rw [y, qT] at z
      cases z
      exact n ts dT
    refine entry_tail hA (hF.of_keeps fun b o z n => ⟨o, (oth b (nrec b o z n)).trans z, rfl⟩) hL ((oth e nT.symm).trans q) d (Array.getElem?_eq_some_iff.mp r).1 h0 fun h' T' hs F' L' => k h' T' (by rw [Heap.size_after_update] at hs; exact hs) F' ⟨fun b o z n1 n2 n3 => ?_, fun b o z n1 n2 => ?_, fun b o z => ?_⟩
    · exact L'.keep b o ((oth b fun y => n2 (by rw [y])).trans z) n1 (by simp) n3
    · exact L'.slot b o ((oth b fun y => n2 (by rw [y])).trans z) n1 (by simp)
    · by_cases y : b = T
      · subst y
        exact L'.here b _ self
      · exact L'.here b o ((oth b y).trans z)
theorem rest_S {e T : Addr} {c a0 : Value} {dx : Option Addr} {Q : Unit → Shared → Prop} (F : Flt s.heap e c dx a0 (some T))
    (k : ∀ h', Flt h' e c dx a0 (some T) → (∀ b, b ≠ T → h'.get? b = s.heap.get? b) → (∃ o, h'.get? T = some o) → Q () { s with heap := h' }) : wpAny M A (setFlight (.ref e) none) Q E s := by
  obtain ⟨ob, fs, q, hc, hx, d, h0, r, nT, oT, ts, qT, dT, r3⟩ := F
  unfold setFlight
  refine wpAny_bind (wpAny_field q d r ?_)
  rw [if_pos (show (Value.ref T != Value.none) = true from by simp)]
  have z3 := (Array.getElem?_eq_some_iff.mp r3).1
  refine wpAny_setField qT dT z3 ?_
  have oth : ∀ b, b ≠ T → (s.heap.update T (Obj.mapFields (·.setIfInBounds 3 ((none : Option Addr).elim Value.none fun f => rawInt f)))).get? b = s.heap.get? b := fun b ne => Heap.get?_update_other _ _ ne.symm
  have self := Heap.get?_update_self (Obj.mapFields (·.setIfInBounds 3 ((none : Option Addr).elim Value.none fun f => rawInt f))) qT (Obj.isFreed_of_fields (Obj.data_mapFields dT _))
  refine k _ ⟨ob, fs, (oth e nT.symm).trans q, hc, hx, d, h0, r, nT, _, _, self, Obj.data_mapFields dT _, ?_⟩ oth ⟨_, self⟩
  rw [Array.getElem?_setIfInBounds_self_of_lt z3]
  rfl
end
section
variable {P : Program} {w : World} {K : PySem.W.Frag} {mg : Str → Option Value} {base : Heap} {N : List Str} {qual : Str} {scope : Scope} {f : Addr} {cd : Value} {A : Around} {outer : List Env} {s0 : Shared} {H0 : Hp} {E : XK} {CX : CXT}
    {σ : L2.St} {H : Hp} {s : Shared} {h' : Heap} {X : Cx}
theorem inv_turn (I : L2.Inv X [] σ H s) (S : Addr → Prop) (hex : X.ex = []) (hpn : ∀ p ∈ X.pn, ¬ S p.1) (keep : ∀ b o, s.heap.get? b = some o → ¬ S b → b ∉ frs X.stack → h'.get? b = some o)
    (slot : ∀ b o, s.heap.get? b = some o → ¬ S b → ∃ sl, h'.get? b = some { o with slots := sl }) (here : ∀ b o, s.heap.get? b = some o → ∃ o', h'.get? b = some o')
    (n0 : ∀ b, S b → X.s₀.heap.get? b = none) (nL : ¬ S X.env.locals) (nC : ∀ x c, X.env.cells.lookup x = some c → ¬ S c) (nH : ∀ b, S b → H b = none) : L2.Inv X [] σ H { s with heap := h' } := by
  have nS : ∀ b o, X.s₀.heap.get? b = some o → ¬ S b := fun b o z y => by rw [n0 b y] at z; cases z
  have nex : ∀ b, b ∉ X.ex := fun b z => by rw [hex] at z; cases z
  have B := I.base
  have cellK : ∀ x c, X.env.cells.lookup x = some c → ∀ v, s.heap.IsCell c v → h'.IsCell c v := fun x c z v ⟨o, ho, hd⟩ => by
    obtain ⟨sl, q⟩ := slot c o ho (nC x c z)
    exact ⟨_, q, hd⟩
  refine ⟨I.ok, I.os, I.bare, ⟨fun b o z n nf _ => ?_, fun b o z n hf _ => ?_, fun b o z n x => B.free b o z n x, fun b o z x => ?_, B.tups, B.frzs, B.tbls⟩, ?_, fun x c z => ?_, I.free, I.freeC, fun p hp => ?_, fun b u q => ?_, I.len⟩
  · have z1 := B.keep b o z n nf (nex b)
    refine keep b o z1 (nS b o z) fun y => ?_
    rcases List.mem_cons.mp (I.stkSub b y) with y | y
    · rw [y] at z
      exact absurd (Heap.lt_size z) (Nat.not_lt_of_le I.ok.above)
    · exact nf y
  · obtain ⟨sl, z1⟩ := B.slot b o z n hf (nex b)
    obtain ⟨sl', z2⟩ := slot b _ z1 (nS b o z)
    exact ⟨sl', z2⟩
  · obtain ⟨o', z1⟩ := B.there b o z x
    exact here b o' z1
  · obtain ⟨m, hn, hl⟩ := I.loc
    obtain ⟨o, es, ep, ho, hd, r⟩ := hn
    obtain ⟨sl, q⟩ := slot _ o ho nL
    refine ⟨m, ⟨_, es, ep, q, hd, r⟩, fun i x v a1 a2 a3 => ?_⟩
    obtain ⟨u, rv, l⟩ := hl i x v a1 a2 a3
    refine ⟨u, rv, ?_⟩
    rcases l with l | ⟨kd, c, z, y⟩
    · exact .inl l
    · exact .inr ⟨kd, c, z, cellK x c z _ y⟩
  · obtain ⟨v, y⟩ := I.cell x c z
    exact ⟨v, cellK x c z v y⟩
  · obtain ⟨z, n, ne, nf, dd⟩ := I.pin p hp
    rw [List.append_nil] at hp
    refine ⟨keep p.1 p.2 z (hpn p hp) (fun y => ?_), n, ne, nf, dd⟩
    rcases List.mem_cons.mp (I.stkSub _ y) with y | y
    · exact ne y
    · exact nf y
  · have free : ∀ c v, H c = some v → ¬ S c ∧ c ∉ frs X.stack := fun c v z => ⟨(fun y => by rw [nH c y] at z; cases z), (fun y => by rw [I.stkFree c y] at z; cases z)⟩
    refine (I.hok b u q).stay (fun c v hc z => ?_) (fun _ z => z) fun _ _ z => z
    rcases hc with y | y
    · rw [y] at z ⊢
      exact keep b v z (free b u q).1 (free b u q).2
    · exact keep c v z (free c _ y).1 (free c _ y).2
end
end L4
namespace L4
open PySem PySem.Spec PyProof.Rows L2 L3
section
variable {M : Model} {A : Around} {E : Value → Shared → Prop} {h : Heap} {g : Array GenState} {d : Drawn} {t : Nat} {os : OsState}
theorem match_up {C U e : Addr} {ob : Obj} {n1 q1 n2 q2 : Str} {N1 N2 : Addr} {b1 m1 b2 m2 : List Value} {d1 d2 : Bool} {s1 s2 : List Str} {u1 u2 : List Value} {a1 a2 : Bool} {c1 c2 : Option Bool} {x1 x2 : Option Addr} {i0 i1 i2 i3 i5 j0 j1 j2 j3 j5 : Option Value} {id1 id2 : String} {Q : Bool → Shared → Prop}
    (hC : h.get? C = some (excClassObj n1 q1 C N1 b1 m1 d1 s1 u1 a1 c1 x1 i0 i1 i2 i3 i5 id1)) (hU : h.get? U = some (excClassObj n2 q2 U N2 b2 m2 d2 s2 u2 a2 c2 x2 j0 j1 j2 j3 j5 id2)) (he : h.get? e = some ob) (hc : ob.cls = .ref C)
    (hb : m2.contains (.type "BaseException") = true) (hm : (Value.ref C :: m1).contains (.ref U) = true) (hq : Q true ⟨h, g, d, t, os⟩) : wpAny M A (excMatches (.ref e) (.ref U)) Q E ⟨h, g, d, t, os⟩ := by
  have hbb : (Value.ref U :: m2).contains (.type "BaseException") = true := by rw [List.contains_cons, hb, Bool.or_true]
  have ft := tc_notTuple
  unfold excMatches
  repeat (first | (with_reducible refine wpAny_loadPart_at he ?_; rw [hc]) | with_reducible refine wpAny_loadPart_at hU ?_ | (with_reducible refine wpAny_isSubtype_exc hU ?_; rw [hbb]) | (with_reducible refine wpAny_isSubtype_exc hC ?_; rw [hm]) | wp_step)
  exact hq
end
noncomputable abbrev Cx.marked (X : Cx) (e : Addr) : Cx := { X with A := X.A.mark (some (.ref e)), calm := false, xe := fun _ _ => False }
section
variable {X : Cx} {σ : L2.St} {H : Hp} {s : Shared} {h' : Heap} {e : Addr}
theorem inv_marked (I : L2.Inv X [] σ H s) (e : Addr) : L2.Inv (Cx.marked X e) [] σ H s :=
  ⟨⟨I.ok.mod, I.ok.kind, I.ok.glob, I.ok.blt, I.ok.above, I.ok.inj, I.ok.has, I.ok.cab, (fun z => nomatch z), I.ok.frames, I.ok.stk, I.ok.exf, I.ok.bs, I.ok.bsz, I.ok.noex, I.ok.exfs, I.ok.funs, I.ok.frf⟩, I.os, I.bare, I.base, I.loc, I.cell, I.free, I.freeC, I.pin, I.hok, I.len⟩
theorem inv_unmark (ok : X.Ok) (I : L2.Inv (Cx.marked X e) [] σ H s) : L2.Inv X [] σ H s :=
  ⟨ok, I.os, I.bare, I.base, I.loc, I.cell, I.free, I.freeC, I.pin, I.hok, I.len⟩
theorem inv_track (I : L2.Inv X [] σ H s) {ob : Obj} (hpn : ∀ p ∈ X.pn, p.1 ≠ e) (q : s.heap.get? e = some ob) (ne : H e = none) (n0 : X.s₀.heap.get? e = none) (nL : e ≠ X.env.locals) (nC : ∀ x c, X.env.cells.lookup x = some c → c ≠ e) : L2.Inv X [] σ (upd H e (.frz ob (.own e))) s := by
  have nS : ∀ b o, X.s₀.heap.get? b = some o → b ≠ e := fun b o z y => by rw [y, n0] at z; cases z
  have nT : ∀ b o, H b = some o → b ≠ e := fun b o z y => by rw [y, ne] at z; cases z
  have B := I.base
  refine ⟨I.ok, I.os, I.bare, ⟨B.keep, B.slot, fun b o z n x => ?_, B.there, fun b xs z => ?_, fun b o u z => ?_, fun b ps z => ?_⟩, I.loc, I.cell, ?_, fun x c z => ?_, fun p hp => ?_, fun b u z => ?_, I.len⟩
  · rw [upd_ne (nS b o z)]; exact B.free b o z n x
  · have := B.tups b xs z
    rw [upd_ne (nT b _ this)]; exact this
  · have := B.frzs b o u z
    rw [upd_ne (nT b _ this)]; exact this
  · obtain ⟨more, y⟩ := B.tbls b ps z
    exact ⟨more, by rw [upd_ne (nT b _ y)]; exact y⟩
  · rw [upd_ne nL.symm]; exact I.free
  · rw [upd_ne (nC x c z)]; exact I.freeC x c z
  · obtain ⟨z, n, r⟩ := I.pin p hp
    rw [List.append_nil] at hp
    exact ⟨z, by rw [upd_ne (hpn p hp)]; exact n, r⟩
  · by_cases y : b = e
    · subst y
      rw [upd_same] at z
      cases z
      exact ⟨q, ob, q⟩
    · rw [upd_ne y] at z
      exact (I.hok b u z).stay (fun _ _ _ y => y) (fun c y => by rw [upd_ne (nT c _ y)]; exact y) fun c xs y => by rw [upd_ne (nT c _ y)]; exact y
theorem name_gone {M : Model} {A : Around} {E : Value → Shared → Prop} (I : L2.Inv X [] σ H s) {n : Str} {i : Nat} {pos : Pos} {Q : Unit → Shared → Prop} (hN : X.N.Nodup) (hi : X.N[i]? = some n) (hlo : X.env.kindOf n = some .local)
    (k : ∀ s', L2.Inv X [] (σ.set i none) H s' → Q () s') : wpAny M A (do bindName X.env n .none; unbindBehindTheSuite X.env n pos) Q E s := by
  obtain ⟨m, hn, hl⟩ := id I.loc
  have hcls : (X.env.scope.kind == .class || (X.env.scope.kind == .module && X.env.locals != X.env.globals)) = false := by rw [I.ok.kind]; rfl
  refine wpAny_nameGoes_keeps hlo hn hcls fun h2 v hm S => k _ ?_
  have B := I.base
  have cne := I.cne
  have old : ∀ b o, X.s₀.heap.get? b = some o → h2.get? b = s.heap.get? b := fun b o z => S.2 b (Nat.ne_of_lt (Nat.lt_of_lt_of_le (Heap.lt_size z) I.ok.above))
  have iσ : i < σ.length := by rw [I.len]; exact (List.getElem?_eq_some_iff.mp hi).1
  refine ⟨I.ok, I.os, I.bare, ⟨fun b o z n nf x => (old b o z).trans (B.keep b o z n nf x), fun b o z n hf x => ?_, B.free, fun b o z x => ?_, B.tups, B.frzs, B.tbls⟩, ⟨_, hm, fun j y v' a1 a2 a3 => ?_⟩, fun y c z => ?_, I.free, I.freeC, fun p hp => ?_, fun b u z => ?_, by rw [List.length_set]; exact I.len⟩
  · obtain ⟨sl, y⟩ := B.slot b o z n hf x
    exact ⟨sl, (old b o z).trans y⟩
  · obtain ⟨o', y⟩ := B.there b o z x
    exact ⟨o', (old b o z).trans y⟩
  · by_cases hj : j = i
    · subst hj
      rw [List.getElem?_set_self iσ] at a2
      cases a2
    · rw [List.getElem?_set_ne (Ne.symm hj)] at a2
      obtain ⟨u', r', q⟩ := hl j y v' a1 a2 a3
      refine ⟨u', r', ?_⟩
      rcases q with ⟨kd, z⟩ | ⟨kd, c, z, w⟩
      · refine .inl ⟨kd, ?_⟩
        have : y ≠ n := fun z => hj (nodup_ix hN a1 (z ▸ hi))
        simp [this, z]
      · exact .inr ⟨kd, c, z, w.sameBut S (cne y c z)⟩
  · obtain ⟨w, y'⟩ := I.cell y c z
    exact ⟨w, y'.sameBut S (cne y c z)⟩
  · obtain ⟨z, n, ne, r⟩ := I.pin p hp
    exact ⟨(S.2 p.1 ne).trans z, n, ne, r⟩
  · have free : ∀ c u, H c = some u → c ≠ X.env.locals := fun c u z y => by rw [y, I.free] at z; cases z
    refine (I.hok b u z).stay (fun c w hc y => (S.2 c ?_).trans y) (fun _ y => y) fun _ _ y => y
    rcases hc with y' | y'
    · rw [y']; exact free b u z
    · exact free c _ y'
end
noncomputable def ExCls (K : PySem.W.Frag) (C : Addr) (m : List Value) : Prop := ∃ nm q N bs hd sn sub ab col dd k0 k1 k2 k3 k5 id, K.lookup C = some (excClassObj nm q C N bs m hd sn sub ab col dd k0 k1 k2 k3 k5 id)
structure Apart (X : Cx) (a : Addr) : Prop where
  n0 : X.s₀.heap.get? a = none
  nL : a ≠ X.env.locals
  nC : ∀ y c, X.env.cells.lookup y = some c → c ≠ a
  nP : ∀ p ∈ X.pn, p.1 ≠ a
noncomputable def Caught (X : Cx) (E2 : XK) : Value → Shared → Prop := fun x s1 => ∃ σ' H1 e c dx a0 T, x = .ref e ∧ L2.Inv X [] σ' H1 s1 ∧ Flt s1.heap e c dx a0 (some T) ∧ Apart X e ∧ Apart X T ∧ H1 e = none ∧ H1 T = none ∧ E2 c dx H1
theorem apart_of {X : Cx} {pins : List (Addr × Obj)} {σ : L2.St} {H : Hp} {s : Shared} {a : Addr} (I : L2.Inv X pins σ H s) (hex : X.ex = []) (n : s.heap.get? a = none) : Apart X a := by
  have ne : ∀ b o, s.heap.get? b = some o → b ≠ a := fun b o z y => by rw [y, n] at z; cases z
  refine ⟨?_, ?_, fun y c z => ?_, fun p hp => ?_⟩
  · cases z : X.s₀.heap.get? a with
    | none => rfl
    | some o =>
      obtain ⟨o', y⟩ := I.base.there a o z (by rw [hex]; simp)
      exact absurd rfl (ne a o' y)
  · obtain ⟨m, ⟨o, _, _, z, _⟩, _⟩ := I.loc
    exact (ne _ o z).symm
  · obtain ⟨v, o, y', _⟩ := I.cell y c z
    exact ne c o y'
  · exact ne _ _ (I.pin p (List.mem_append_left _ hp)).1
theorem passes_try {X : Cx} {E2 : XK} (hex : X.ex = []) : Passes (CXe X.prog X.w) (X.wish (Caught X E2)) E2 := by
  rintro pins σ H s x s' I ⟨e, c, dx, a0, T, H', rfl, le, lT, F, ne, nT, os, bare, un, hok, q⟩
  have I0 := I.unwish
  have I' := I0.call' (ch := []) os un hok bare (fun b z => nomatch z)
  exact ⟨σ, H', e, c, dx, a0, T, rfl, I'.pins_of (fun p z => nomatch z), F, apart_of I0 hex le, apart_of I0 hex lT, ne, nT, q⟩
noncomputable def tTry (E2 : XK) (i : Nat) (tb ts : TS) : TS := fun D σ H => tb D σ H ∧ ∀ c dx H1, E2 c dx H1 → ∀ (σ' : L2.St) (e : Addr) (ob : Obj), σ'.length = σ.length → H1 e = none → ob.cls = c → ob.dict = dx → PySem.W.notCls ob = true →
  ts { nx := fun σ2 H2 => D.nx (σ2.set i none) H2, rt := fun _ _ => False } (σ'.set i (some (.ref e))) (upd H1 e (.frz ob (.own e)))
noncomputable abbrev Cx.pinned (X : Cx) (l : List (Addr × Obj)) : Cx := { X with pn := l }
theorem inv_pin {X : Cx} {pins : List (Addr × Obj)} {σ : L2.St} {H : Hp} {s : Shared} (I : L2.Inv X pins σ H s) : L2.Inv (Cx.pinned X (X.pn ++ pins)) [] σ H s :=
  ⟨⟨I.ok.mod, I.ok.kind, I.ok.glob, I.ok.blt, I.ok.above, I.ok.inj, I.ok.has, I.ok.cab, I.ok.hd, I.ok.frames, I.ok.stk, I.ok.exf, I.ok.bs, I.ok.bsz, I.ok.noex, I.ok.exfs, I.ok.funs, I.ok.frf⟩, I.os, I.bare, I.base, I.loc, I.cell, I.free, I.freeC, (fun p hp => I.pin p (by rw [List.append_nil] at hp; exact hp)), I.hok, I.len⟩
theorem inv_unpin {X : Cx} {pins : List (Addr × Obj)} {σ : L2.St} {H : Hp} {s : Shared} (ok : X.Ok) (I : L2.Inv (Cx.pinned X (X.pn ++ pins)) [] σ H s) : L2.Inv X pins σ H s :=
  ⟨ok, I.os, I.bare, I.base, I.loc, I.cell, I.free, I.freeC, (fun p hp => I.pin p (by rw [List.append_nil]; exact hp)), I.hok, I.len⟩
theorem ps_try {X : Cx} {body suite : List Stmt} {b0 : Stmt} {tb ts : TS} {E2 : XK} {U : Addr} {x n : Str} {i : Nat} {np hpos pos : Pos} {mU : List Value}
    (hex : X.ex = []) (hN : X.N.Nodup) (hst : X.stack = X.env :: X.outer) (hfr : X.env.frame = some X.env.locals) (hg : Gl X x) (hm : X.mg x = some (.ref U)) (hU : ExCls X.K U mU) (hbU : mU.contains (.type "BaseException") = true)
    (hi : X.N[i]? = some n) (hlo : X.env.kindOf n = some .local) (hb : ∀ l, PSs ((Cx.pinned X l).wish (Caught (Cx.pinned X l) E2)) body tb) (hs : ∀ l e, PSs (Cx.marked (Cx.pinned X l) e) (b0 :: suite) ts)
    (hE : ∀ c dx H, E2 c dx H → ∃ C m, c = .ref C ∧ ExCls X.K C m ∧ (Value.ref C :: m).contains (.ref U) = true) (hdb : (x == ("__debug__" : Str)) = false := by decide) :
    PS X (.Try body [.ExceptHandler (some (.Name x np)) (some n) (b0 :: suite) hpos] [] [] pos) (tTry E2 i tb ts) := by
  intro pins s σ H D I ⟨h, hc⟩
  have IY := inv_pin I
  have hexY : (Cx.pinned X (X.pn ++ pins)).ex = [] := hex
  refine wpAny_Try_except (wpAny_mono (hb (X.pn ++ pins) [] s σ H D (IY.wish _) h) (fun f s1 hf => ?_) (fun v s1 hx => ?_))
  · have hf := SP.unwish hf
    cases f with
    | next =>
      obtain ⟨σ1, H1, I1, q1⟩ := hf
      exact wpAny_execs_nil ⟨σ1, H1, inv_unpin I.ok I1, q1⟩
    | brk => obtain ⟨σ1, H1, I1, q1⟩ := hf; exact ⟨σ1, H1, inv_unpin I.ok I1, q1⟩
    | cont => obtain ⟨σ1, H1, I1, q1⟩ := hf; exact ⟨σ1, H1, inv_unpin I.ok I1, q1⟩
    | ret u => obtain ⟨v, σ1, H1, I1, r, q1⟩ := hf; exact ⟨v, σ1, H1, inv_unpin I.ok I1, r, q1⟩
  · obtain ⟨σ1, H1, e, c, dx, a0, T, rfl, I1, F, aE, aT, ne, nT, q⟩ := hx
    obtain ⟨C, mC, hcC, ⟨n1, q1, N1, b1, d1, t1, u1, a1, l1, x1, i0, i1, i2, i3, i5, id1, kC⟩, hup⟩ := hE c dx H1 q
    obtain ⟨n2, q2, N2, b2, d2, t2, u2, a2, l2, x2, j0, j1, j2, j3, j5, id2, kU⟩ := hU
    have fr : X.A.frames = some (X.env :: X.outer) := by rw [← hst]; exact I.ok.frames
    have ff : s1.heap.FunFrames X.base (X.env :: X.outer) := by rw [← hst]; exact I1.stack
    refine catch_S fr ff hfr F fun h2 T2 z2 F2 L2' => ?_
    have I2 : L2.Inv (Cx.pinned X (X.pn ++ pins)) [] σ1 H1 { s1 with heap := h2 } := inv_turn I1 (fun b => b = e ∨ b = T) hexY (fun p hp y => y.elim (aE.nP p hp) (aT.nP p hp))
      (fun b o z nS nf => L2'.keep b o z (fun y => nS (.inl y)) (fun y => nS (.inr (Option.some.inj y).symm)) (by rw [← hst]; exact nf))
      (fun b o z nS => L2'.slot b o z (fun y => nS (.inl y)) (fun y => nS (.inr (Option.some.inj y).symm))) L2'.here
      (fun b y => y.elim (fun y => by rw [y]; exact aE.n0) (fun y => by rw [y]; exact aT.n0)) (fun y => y.elim (fun y => aE.nL y.symm) (fun y => aT.nL y.symm))
      (fun y k z w => w.elim (aE.nC y k z) (aT.nC y k z)) (fun b y => y.elim (fun y => by rw [y]; exact ne) (fun y => by rw [y]; exact nT))
    have aT2 : Apart (Cx.pinned X (X.pn ++ pins)) T2 := apart_of I1 hexY (Heap.get?_none_of_le z2)
    have nT2 : H1 T2 = none := I1.hok.fresh z2
    refine wpAny_handleBy_cons (codeAny_handlers_test (ld_glob (X := Cx.marked (Cx.pinned X (X.pn ++ pins)) e) (inv_marked I2 e) hg hm ?_ hdb)) (by intro y; cases y)
    have F2' := F2
    obtain ⟨ob, fs, qe, cE, dE, dF, _⟩ := F2'
    refine match_up (I2.kIn _ _ kC) (I2.kIn _ _ kU) qe (cE.trans hcC) hbU hup ?_
    refine codeAny_handlers_suite_as (rest_S F2 fun h3 F3 oth hT3 => ?_)
    have neT : e ≠ T2 := fun y => by
      obtain ⟨_, _, _, _, _, _, _, _, w, _⟩ := F2
      exact w y.symm
    have I3 : L2.Inv (Cx.pinned X (X.pn ++ pins)) [] σ1 H1 { s1 with heap := h3 } := inv_turn (s := { s1 with heap := h2 }) I2 (fun b => b = T2) hexY (fun p hp y => aT2.nP p hp y)
      (fun b o z nS _ => (oth b nS).trans z) (fun b o z nS => ⟨o.slots, (oth b nS).trans z⟩)
      (fun b o z => (Classical.em (b = T2)).elim (fun y => by rw [y]; exact hT3) (fun y => ⟨o, (oth b y).trans z⟩)) (fun b y => by rw [y]; exact aT2.n0) (fun y => aT2.nL y.symm) (fun y k z w => aT2.nC y k z w) (fun b y => by rw [y]; exact nT2)
    have I4 := inv_track I3 aE.nP ((oth e neT).trans qe) ne aE.n0 aE.nL aE.nC
    refine store_ok (X := Cx.marked (Cx.pinned X (X.pn ++ pins)) e) (inv_marked I4 e) hN hi (.inl hlo) (v := .ref e) rfl (fun s4 I5 => ?_) (.inr hlo)
    have w := hc c dx H1 q σ1 e ob (I1.len.trans I.len.symm) ne cE dE (by unfold PySem.W.notCls; rw [dF])
    refine wpAny_mono (hs (X.pn ++ pins) e [] s4 _ _ _ I5 w) (fun f s5 hf => ?_) (fun y s5 z => z.elim)
    cases f with
    | next =>
      obtain ⟨σ2, H2, I6, q6⟩ := hf
      exact name_gone (inv_unmark IY.ok I6) hN hi hlo fun s6 I7 => ⟨_, _, inv_unpin I.ok I7, q6⟩
    | brk => obtain ⟨σ2, H2, I6, q6⟩ := hf; exact q6.elim
    | cont => obtain ⟨σ2, H2, I6, q6⟩ := hf; exact q6.elim
    | ret u => obtain ⟨v, σ2, H2, I6, r, q6⟩ := hf; exact q6.elim
end L4
namespace L4
open PySem PySem.Spec L2 L3
theorem okE {P : Program} {w : World} {K : PySem.W.Frag} {mg : Str → Option Value} {base : Heap} {x qual : Str} {st : Stmt} {f : Addr} {fd : FuncData} {N ps : List Str} {k n m : Nat} {g : FS} {FF : FN} (F : Fun K x qual st f fd) (S : FnScope N ps (defScope st)) (hn : ps.length = n) (hm : N.length = m) (hF : FF = runF m g)
    (hbody : ∀ (cdv : Value) (A : Around) (outer : List Env) (s : Shared) (H : Hp) (E : XK), Room k (A.deeper (PyProof.Rows.envOfC qual (defScope st) s.heap.objs.size f cdv)) →
      ∃ t, PSs (cxOf (CXe P w) P w K mg base N qual (defScope st) f cdv A outer s H E) (defBody st) t ∧ SO K E t g) : FnOk P w K mg base (CXe P w) (k + 1) f fd ps (spP K n FF) := by
  subst hF hm
  obtain ⟨oc, od, kV, doc, pm, an, cdv, ct, osl, rfl, lk, hcd⟩ := F.ex
  refine fn_of lk hcd S (fun vs H Q E h => h.1.trans hn.symm) fun A outer s H vs Q E hr hsp => ?_
  obtain ⟨t, ht, hs⟩ := hbody cdv A outer s H E hr
  obtain ⟨hl, B, ds, hb, dv, h⟩ := hsp
  refine ⟨t, ht, hs B H B _ H _ _ (rl_start hb dv) (WR.imp (WR.bind h) fun fl q => ?_)⟩
  cases fl with
  | rt rv => exact q
  | nx ρ => exact fun O' σ' H' e R => q .non H' R.same .non
  | bk ρ => exact q.elim
  | ct ρ => exact q.elim
noncomputable def CalE (P : Program) (w : World) (K : PySem.W.Frag) (mg : Str → Option Value) (base : Heap) (k : Nat) (x : Str) (ps : List Str) (n : Nat) (F : FN) : Prop :=
  ∃ f fd, FnOk P w K mg base (CXe P w) k f fd ps (spP K n F) ∧ Binds K fd ps [] ∧ PySem.W.keepIn K (.ref f) = true ∧ mg x = some (.ref f)
theorem pe_calE {X : Cx} {k j n : Nat} {x : Str} {ps : List Str} {F : FN} {E : XK} {e : Expr} {es : List Expr} {t : TA} {p pos : Pos} (C : CalE X.prog X.w X.K X.mg X.base k x ps n F) (hx : Passes (CXe X.prog X.w) X E) (hr : Room j X.A) (ha : PA X (e :: es) t) (hjk : k ≤ j := by decide) (hg : Gl X x := by rfl)
    (hdb : (x == ("__debug__" : Str)) = false := by decide) (he : starEach (e :: es) X.env = (false, eval e X.env) :: starEach es X.env := by rfl) (hpl : (backTo pos (starEach es X.env)).any (·.1) = false := by rfl) :
    PE X (.Call (.Name x p) (e :: es) [] pos) (tCall (spP X.K n F) [] E t) := by
  obtain ⟨f, fd, F, b, kp, m⟩ := C
  exact pe_call F (hr.mono hjk) hg m kp b .nil hx ha hdb he hpl
end L4
namespace L4
open PySem PySem.Spec PySem.W PyProof.Rows L2 L3
section
variable {prog : Program} {w : World} {A : Around} {E : Value → Shared → Prop} {h : Heap} {g : Array GenState} {d : Drawn} {t : Nat} {os : OsState} {a C : Addr} {o : Obj} {K : PySem.W.Frag}
    {n1 q1 : Str} {N1 : Addr} {b1 m1 : List Value} {d1 : Bool} {s1 : List Str} {u1 : List Value} {a1 : Bool} {c1 : Option Bool} {x1 : Option Addr} {i0 i1 i2 i3 i5 : Option Value} {id1 : String}
theorem ecls_check {M : Model} {nv : Value} {Q : Unit → Shared → Prop} (hC : h.get? C = some (excClassObj n1 q1 C N1 b1 m1 d1 s1 u1 a1 c1 x1 i0 i1 i2 i3 i5 id1)) (hb : m1.contains (.type "BaseException") = true)
    (hx : h.get? a = some o) (hc : o.cls = .ref C) (k : Q () ⟨h, g, d, t, os⟩) : wpAny M A (checkBuiltinCall "BaseException.__getattribute__" ⟨[.ref a, nv], []⟩) Q E ⟨h, g, d, t, os⟩ := by
  have e1 : builtinKind "BaseException.__getattribute__" = some .slot := by decide +kernel
  have e2 : splitId "BaseException.__getattribute__" = some ("BaseException", "__getattribute__") := by decide +kernel
  have e3 : (Value.ref C :: m1).contains (.type "BaseException") = true := by rw [List.contains_cons, hb, Bool.or_true]
  have e4 := F.args_bexc_ga (.ref a) nv
  simp only [checkBuiltinCall, e1, e2]
  refine wpAny_bind ?_
  unfold isInstance
  repeat (first | (with_reducible refine wpAny_loadPart_at hx ?_; rw [hc]) | (with_reducible refine wpAny_isSubtype_exc hC ?_; rw [e3]) | wp_step)
  exact k
theorem ecls_entry {tk : Tok} {Q : Fin → Shared → Prop} {od : Option Obj} (X : K.In h) (I : PySem.W.InstAt h a o C od) (l3 : findIn K (.ref C) "__class__" = some (some (.builtin "object.__class__"))) (hm : mroIn K C (.type "object") = some true)
    (k : Q (.done (.ret (.ref C))) ⟨h, g, d, t, os⟩) : wpAny (model prog w) A (Builtin.«object.__getattribute__» ⟨[.ref a, .str "__class__" tk], []⟩) Q E ⟨h, g, d, t, os⟩ := by
  have e5 : (⟨h, g, d, t, os⟩ : Shared).TypeIs (.builtin "object.__class__") "getset_descriptor" := F.typeOf_object_class
  have f5 := F.typeOf_object_class
  have f6 := F.slot_gs_get.lookup
  have f7 := F.slot_gs_set.lookup
  have L0 := I.type (M := model prog w)
  have L1 := looks_findIn (M := model prog w) X l3
  repeat (any_goals (first | assumption | with_reducible refine L0.at ?_ | with_reducible refine L1.at ?_ | wp_step))
  refine class_get (s := ⟨h, g, d, t, os⟩) X I hm ?_
  repeat (any_goals (first | assumption | wp_step))
theorem ecls_attr {Q : Option Value → Shared → Prop} {od : Option Obj} (X : K.In h) (I : PySem.W.InstAt h a o C od) (hC : h.get? C = some (excClassObj n1 q1 C N1 b1 m1 d1 s1 u1 a1 c1 x1 i0 i1 i2 i3 i5 id1)) (hb : m1.contains (.type "BaseException") = true)
    (l1 : findIn K (.ref C) "__getattribute__" = some (some (.builtin "BaseException.__getattribute__"))) (l2 : findIn K (.ref C) "__getattr__" = some none) (l3 : findIn K (.ref C) "__class__" = some (some (.builtin "object.__class__"))) (hm : mroIn K C (.type "object") = some true)
    (k : Q (some (.ref C)) ⟨h, g, d, t + 1, os⟩) : wpAny (model prog w) A (getAttr? (.ref a) "__class__") Q E ⟨h, g, d, t, os⟩ := by
  have f3 := PySem.F.attrBase_ValueError.ga.bind (.ref a)
  have z2 : (Value.builtin "BaseException.__getattribute__" == Value.builtin "object.__getattribute__") = false := by decide +kernel
  have z1 : (onTheHeap (Value.ref C) && Value.builtin "BaseException.__getattribute__" == Value.builtin "object.__getattribute__") = false := by rw [z2]; rfl
  have L0 := I.type (M := model prog w)
  have L1 := looks_findIn (M := model prog w) X l1
  have L2 := looks_findIn (M := model prog w) X l2
  unfold getAttr? getAttrBy? getAttrBy
  repeat (any_goals (first | assumption | with_reducible refine L0.at ?_ | with_reducible refine L1.at ?_ | with_reducible refine L2.at ?_ | wp_step))
  refine codeAny_call_builtin PySem.F.attrBase_ValueError.ga.plain F.entry_bexc_ga (ecls_check hC hb I.at_ I.cls (ecls_entry X I l3 hm ?_))
  repeat (any_goals (first | assumption | wp_step))
structure ExLook (K : PySem.W.Frag) (C : Addr) (m : List Value) : Prop where
  cl : ExCls K C m
  be : m.contains (.type "BaseException") = true
  ga : findIn K (.ref C) "__getattribute__" = some (some (.builtin "BaseException.__getattribute__"))
  gt : findIn K (.ref C) "__getattr__" = some none
  cs : findIn K (.ref C) "__class__" = some (some (.builtin "object.__class__"))
  ob : mroIn K C (.type "object") = some true
theorem kitx_exc {m : List Value} {od : Option Obj} (L : ExLook K C m) : KitX K (.ref a) (.ref C) (fun h => PySem.W.InstAt h a o C od) where
  ty := fun _ _ _ I => I.type
  it := fun _ _ X _ => by
    obtain ⟨_, _, _, _, _, _, _, _, _, _, _, _, _, _, _, _, kC⟩ := L.cl
    intro A' Q' E' s' k q
    unfold isType loadHead
    exact wpAny_bind (wpAny_loadPart (k _ _ (X _ _ kC)) (wpAny_pure q))
  ne := fun h tp dd its n sl X htp => by
    obtain ⟨_, _, _, _, _, _, _, _, _, _, _, _, _, _, _, _, kC⟩ := L.cl
    refine Bool.eq_false_iff.mpr fun q => ?_
    obtain rfl : C = tp := Value.ref.inj (beq_iff_eq.mp q)
    have z := congrArg Obj.cls (Option.some.inj ((X _ _ kC).symm.trans htp))
    exact absurd (Value.type.inj z) (by decide)
  ca := fun {_ _ _ _ _ s} X I k => by
    obtain ⟨_, _, _, _, _, _, _, _, _, _, _, _, _, _, _, _, kC⟩ := L.cl
    obtain ⟨hh, gg, dd, tt, oo⟩ := s
    exact ecls_attr X I (X _ _ kC) L.be L.ga L.gt L.cs L.ob k
end
noncomputable def rIsX (K : PySem.W.Frag) (c : Value) : V → Hp → VK → Prop := fun x H Q => ∃ e ob C m b, x = .ref e ∧ H e = some (.frz ob (.own e)) ∧ ob.cls = .ref C ∧ (∀ p, ob.dict = some p → ∃ fs, H p = some (.xd fs)) ∧ notCls ob = true ∧ ExLook K C m ∧ kitOne K (.ref C) c = some b ∧ Q (.bl b) H
theorem isx_ok {X : Cx} {pins : List (Addr × Obj)} {σ : L2.St} {H : Hp} {s : Shared} {A : Around} {E : Value → Shared → Prop} {x : V} {u c : Value} {Q : VK} (I : L2.Inv X pins σ H s) (rx : RelV x u) (h : rIsX X.K c x H Q) :
    wpAny (model X.prog X.w) A (call (.builtin "isinstance") [u, c]) (EP X pins σ Q) E s := by
  obtain ⟨e, ob, C, m, b, rfl, he, hc, hd, hn, L, hk, q⟩ := h
  obtain rfl : u = Value.ref e := rx
  have z : s.heap.get? e = some ob := (I.hok e _ he).1
  cases e1 : ob.dict with
  | none => exact kia_one (kitx_exc (o := ob) (od := none) L) I.kIn ⟨z, hc, hn, by rw [e1]; trivial⟩ hk (fun y => nomatch y) fun tk => ⟨.bl b, H, I.tok tk, rfl, q⟩
  | some p =>
    obtain ⟨fs, hp⟩ := hd p e1
    obtain ⟨op, zp⟩ := ok_get (I.hok p _ hp)
    exact kia_one (kitx_exc (o := ob) (od := some op) L) I.kIn ⟨z, hc, hn, by rw [e1]; exact zp⟩ hk (fun y => nomatch y) fun tk => ⟨.bl b, H, I.tok tk, rfl, q⟩
end L4
namespace L4
open PySem PySem.SeqAt PySem.Spec PySem.W PyProof.Rows L2 L3
theorem vals_bl : ∀ {bs : List Bool} {its : List Value}, Vals (bs.map V.bl) its → its = bs.map Value.bool
  | [], _, .nil => rfl
  | b :: r, _, .cons h t => by
    have h : _ = Value.bool b := h
    rw [h, vals_bl t]
    rfl
theorem eq_bl (k : Bool) {bs : List Bool} {y : Value} (h : y ∈ bs.map Value.bool) (A : Around) (s : Shared) : EqAt A s y (.bool k) (isBoolOf k y) := by
  obtain ⟨b, _, rfl⟩ := List.mem_map.mp h
  exact EqAt.bool_bool b k
theorem count_bl (k : Bool) (bs : List Bool) : (bs.map Value.bool).countP (isBoolOf k) = bs.count k := by
  rw [List.countP_map]
  rfl
section
variable {X : Cx}
noncomputable def rCntB : V → List V → Hp → VK → Prop := fun x xs H Q => ∃ (l : Addr) (bs : List Bool) (k : Bool), x = .ref l ∧ H l = some (.lst (bs.map V.bl)) ∧ xs = [.bl k] ∧ Q (.int (bs.count k : Nat)) H
theorem mt_countB : MtR X "list.count" rCntB := by
  rintro pins s σ H x xs v us Q I rx rxs ⟨l, bs, k, rfl, hl, rfl, q⟩
  obtain rfl : v = .ref l := rx
  obtain rfl : us = [.bool k] := vals_bl (bs := [k]) rxs
  obtain ⟨z, its, n, r, ho⟩ := (show ObjOk X.prog X.w H s.heap l (.lst (bs.map V.bl)) from I.hok l _ hl)
  obtain rfl := vals_bl r
  refine call_meets PySem.F.slot_list_count ⟨_, ho, rfl⟩ PySem.F.entry_list_count (PySem.F.args_list_count_2 _ _) (list_countAt l (bs.map Value.bool).toArray n none #[] (.bool k) (isBoolOf k)) ⟨ho, fun y hy => eq_bl k (by simpa using hy) _ _, ?_⟩
  rw [show (bs.map Value.bool).toArray.toList = bs.map Value.bool from rfl, count_bl]
  exact ⟨.int (bs.count k : Nat), H, I.tok _, ⟨_, rfl⟩, q⟩
noncomputable def rIdxB : V → List V → Hp → VK → Prop := fun x xs H Q => ∃ (l : Addr) (bs : List Bool) (k : Bool) (j : Nat), x = .ref l ∧ H l = some (.lst (bs.map V.bl)) ∧ xs = [.bl k] ∧ bs[j]? = some k ∧ (∀ m, m < j → bs[m]? ≠ some k) ∧ j < 1000 ∧ Q (.int (j : Nat)) H
theorem mt_indexB : MtR X "list.index" rIdxB := by
  rintro pins s σ H x xs v us Q I rx rxs ⟨l, bs, k, j, rfl, hl, rfl, hj, hno, hs, q⟩
  obtain rfl : v = .ref l := rx
  obtain rfl : us = [.bool k] := vals_bl (bs := [k]) rxs
  obtain ⟨z, its, n, r, ho⟩ := (show ObjOk X.prog X.w H s.heap l (.lst (bs.map V.bl)) from I.hok l _ hl)
  obtain rfl := vals_bl r
  obtain ⟨jl, je⟩ := List.getElem?_eq_some_iff.mp hj
  refine call_meets PySem.F.slot_list_index ⟨_, ho, rfl⟩ PySem.F.entry_list_index (PySem.F.args_list_index_2 _ _) (list_indexAt l (bs.map Value.bool).toArray n none #[] (.bool k) (isBoolOf k) j (by simpa using jl) (by omega) ?_ fun m hm lt => ?_) ⟨ho, fun y hy => eq_bl k (by simpa using hy) _ _, ?_⟩
  · simp [isBoolOf, je]
  · have hm' : m < bs.length := by simpa using hm
    have := hno m lt
    rw [List.getElem?_eq_getElem hm'] at this
    simp only [List.getElem_toArray, List.getElem_map, isBoolOf]
    exact beq_eq_false_iff_ne.mpr fun z => this (by rw [z])
  · exact ⟨.int (j : Nat), H, I.tok _, ⟨_, rfl⟩, q⟩
end
end L4
namespace L4
open PySem PySem.Spec PySem.W PyProof.Rows L2 L3
noncomputable def rIsXL (K : PySem.W.Frag) : List V → Hp → VK → Prop := fun xs H Q => ∃ x, (∃ U : Addr, xs = [x, .ref U] ∧ rIsX K (.ref U) x H Q) ∨ ∃ n, xs = [x, .ty n] ∧ rIsX K (.type n) x H Q
theorem call_isX {X : Cx} : CallR X (.builtin "isinstance") (rIsXL X.K) := by
  rintro pins s σ H xs us Q I r ⟨x, h⟩
  rcases h with ⟨U, rfl, h⟩ | ⟨n, rfl, h⟩
  · obtain ⟨u, w', rfl, rx, rn⟩ := vals2 r
    obtain rfl : w' = Value.ref U := rn
    exact isx_ok I rx h
  · obtain ⟨u, w', rfl, rx, rn⟩ := vals2 r
    obtain rfl : w' = Value.type n := rn
    exact isx_ok I rx h
end L4
namespace PySem
open Sem (wp)
open PyProof.Rows
section
variable {prog : Program} {w : World} {A : Around} {E : Value → Shared → Prop} {s : Shared} {t : Addr} {xs : Array (Int × Tok)}
end
end PySem
namespace L3
open PySem PySem.Spec PyProof.Rows L2
end L3
namespace HT
open PySem PySem.Spec PyProof.Rows
section
variable {prog : Program} {w : World} {A : Around} {E : Value → Shared → Prop} {s : Shared}
theorem getItem_tuple_all {t sl : Addr} {items : Array Value} {vl vu : Value} {lo hi : Option Int} {Q : Value → Shared → Prop} (ht : IsTup s.heap t items) (hs : s.heap.IsSliceOf sl vl vu .none) (pl : IsPart vl lo) (pu : IsPart vu hi)
    (hw : sIx items.size 0 lo = 0 ∧ sIx items.size items.size hi = items.size) (h : Q (.ref t) s) : wpAny (model prog w) A (getItem (.ref t) (.ref sl)) Q E s := by
  obtain ⟨os, hos, hcs, hds⟩ := id hs
  have hTs : s.TypeIs (.ref sl) "slice" := ⟨os, hos, hcs⟩
  unfold getItem
  try with_reducible refine wpAny_holding ?_
  first | refine wpAny_bind (wpAny_pure ?_) | skip
  refine wpAny_bind (wpAny_sequenceKey ht.typeIs (by decide) ?_)
  refine wpAny_bind (wpAny_callSpecial?_slot (name := Str.ofString "__getitem__") ht.typeIs PyProof.Rows.slot_tuple_getitem
    (wpAny_call_entry PyProof.Rows.slot_tuple_getitem ht.typeIs entry_tuple_getitem ?_ (args_tuple_getitem _ _)))
  show wpAny _ _ (Builtin.Tuple.tupleItemsOf (.ref t) >>= _) _ _ s
  refine wpAny_bind (tupleItemsOf_ ht ?_)
  refine wpAny_bind (wpAny_typeOf hTs ?_)
  rw [if_pos (by decide)]
  refine wpAny_bind (sliceApplied_gen hs pl pu ?_)
  have hyes : ((((sIx items.size 0 lo : Nat) : Int) == 0 && (1 : Int) == 1 && (sIx items.size items.size hi - sIx items.size 0 lo) == items.size) = true) := by
    rw [hw.1, hw.2]
    simp
  show wpAny _ _ (if (((sIx items.size 0 lo : Nat) : Int) == 0 && (1 : Int) == 1 && (sIx items.size items.size hi - sIx items.size 0 lo) == items.size) = true then _ else _) _ _ s
  rw [if_pos hyes]
  refine wpAny_bind (m := Builtin.Tuple.tupleIsExact _) ?_
  unfold Builtin.Tuple.tupleIsExact
  refine wpAny_bind (wpAny_typeOf ht.typeIs (wpAny_pure ?_))
  rw [if_pos (by decide)]
  refine wpAny_bind (wpAny_rule ?_)
  exact wpAny_pure ⟨_, rfl, wpAny_pure h⟩
end
end HT
namespace L3
open PySem PySem.Spec PyProof.Rows L2
noncomputable def rSlW (K : PySem.W.Frag) : V → Option Int → Option Int → Hp → VK → Prop := fun x lo hi H Q => ∃ (a : Addr) (xs : List V), x = .ref a ∧ SqT K H a xs ∧ (HT.sIx xs.length 0 lo = 0 ∧ HT.sIx xs.length xs.length hi = xs.length) ∧ Q (.ref a) H
theorem sl_whole {X : Cx} : SlR X (rSlW X.K) := by
  intro pins s σ H x v vl vu lo hi sl Q I rx hs pl pu h
  obtain ⟨a, xs, rfl, hx, hw, q⟩ := h
  cases rx
  obtain ⟨its, r, ht, hz⟩ := I.tuple hx
  have hlen : its.toArray.size = xs.length := by rw [List.size_toArray]; exact r.length.symm
  refine ⟨"tuple", _, PyProof.Rows.slot_tuple_getitem.lookup, ht.typeIs, ?_⟩
  exact HT.getItem_tuple_all ht hs pl pu (by rw [hlen]; exact hw) ⟨.ref a, H, I, rfl, q⟩
noncomputable def rSlB (K : PySem.W.Frag) : V → Option Int → Option Int → Hp → VK → Prop := fun x lo hi H Q => rSlA K x lo hi H Q ∨ rSlW K x lo hi H Q
theorem sl_anyB {X : Cx} : SlR X (rSlB X.K) := by
  intro pins s σ H x v vl vu lo hi sl Q I rx hs pl pu q
  rcases q with q | q
  · exact sl_any pins s σ H x v vl vu lo hi sl Q I rx hs pl pu q
  · exact sl_whole pins s σ H x v vl vu lo hi sl Q I rx hs pl pu q
noncomputable def slE : D → Option Int → Option Int → Option RV
  | .list ds, lo, hi => some (.ow (cutD ds lo hi))
  | .tuple ds, lo, hi => some (.fz (.tuple (cutD ds lo hi)))
  | _, _, _ => none
theorem cut_all {ds : List D} {lo hi : Option Int} (h : HT.sIx ds.length 0 lo = 0 ∧ HT.sIx ds.length ds.length hi = ds.length) : cutD ds lo hi = ds := by
  unfold cutD
  rw [h.1, h.2, List.drop_zero, Nat.sub_zero, List.take_length]
theorem slp_B {K : PySem.W.Frag} : SlP K (rSlB K) slE := by
  intro O H x lo hi dx rv Q n hx e q
  cases dx with
  | list ds => exact .inl (slp_any O H x lo hi _ rv Q n hx e q)
  | tuple ds =>
    cases e
    by_cases hw : HT.sIx ds.length 0 lo = 0 ∧ HT.sIx ds.length ds.length hi = ds.length
    · obtain ⟨a, xs, rfl, h1, h2⟩ := DXt hx
      rw [cut_all hw] at q
      refine .inr ⟨a, xs, rfl, h1.1, by rw [h2.length]; exact hw, q.at (.tup h1 h2)⟩
    · refine .inl (slp_any O H x lo hi (.tuple ds) _ Q n hx ?_ q)
      show (if wholeCut ds.length lo hi = true then none else some (RV.fz (.tuple (cutD ds lo hi)))) = _
      have z : wholeCut ds.length lo hi = false := by unfold wholeCut; exact decide_eq_false hw
      rw [z, if_neg Bool.false_ne_true]
  | _ => cases e
end L3
namespace L3
open PySem PySem.Spec PyProof.Rows L2
section
variable {K : PySem.W.Frag} {E : XK}
open Classical in
end
end L3
namespace L9
open PySem PySem.Spec PyProof.Rows
section
variable {M : Model} {A : Around} {E : Value → Shared → Prop} {env : Env}
variable {nm q : Str} {C N : Addr} {bs bm : List Value} {hdct : Bool} {sn : List Str} {sub : List Value} {ab : Bool} {col : Option Bool} {dd : Option Addr} {k0 k1 k2 k3 k5 : Option Value} {newId : String}
theorem raiseStmt_obj {s : Shared} {x : Sem Value} {Q : Flow → Shared → Prop} (hbase : bm.contains (.type "BaseException") = true) (hh : A.handled = none)
    (h : wpAny M A x (fun v s₁ => ∃ e ob, v = .ref e ∧ s₁.heap.get? C = some (excClassObj nm q C N bs bm hdct sn sub ab col dd k0 k1 k2 k3 k5 newId) ∧ s₁.heap.get? e = some ob ∧ ob.cls = .ref C ∧ (∃ fs, ob.data = .fields fs ∧ fs[1]? = some Value.none) ∧ E (.ref e) s₁) E s) :
    wpAny M A (raiseStmt env (some x) none) Q E s := by
  have hcB : (Value.ref C :: bm).contains (.type "BaseException") = true := by rw [List.contains_cons, hbase, Bool.or_true]
  unfold raiseStmt
  refine wpAny_bind (wpAny_mono h (fun v s₁ h₁ => ?_) fun _ _ x => x)
  obtain ⟨e, ob, rfl, hC, he, hc, ⟨fs, hd, hf1⟩, hE⟩ := h₁
  obtain ⟨oc, od, odd⟩ := ob
  dsimp only at hc hd
  subst hc hd
  obtain ⟨hp, g, d, tk, os⟩ := s₁
  repeat (first | with_reducible refine wpAny_loadPart_at he ?_ | with_reducible refine wpAny_loadPart_at hC ?_ | (with_reducible refine wpAny_isSubtype_exc hC ?_; rw [hcB]) | wp_step)
  rw [hf1]
  repeat wp_step
  exact wpAny_raiseNew_none hh hE
end
section
variable {prog : Program} {w : World} {A : Around} {E : Value → Shared → Prop} {h : Heap} {g : Array GenState} {d : Drawn} {t : Nat} {os : OsState}
variable {nm q : Str} {C N : Addr} {bs bm bmB : List Value} {hdct : Bool} {sn : List Str} {sub : List Value} {ab : Bool} {col : Option Bool} {dd : Option Addr} {k0 k1 k2 k3 k5 : Option Value} {B Bn newId nid initId inN : String} {bmN : List Value}
theorem type_call_initU (Fn : ExcBaseFacts Bn newId inN bmN) (hBn : bmB.contains (.type Bn) = true) (F : ExcBaseFacts B nid initId bmB) (T : OwnTail h bmB bm) {mN : Str → Option Value} {rest : List Value} {fI : Addr} {oI : Obj} {Q : Fin → Shared → Prop}
    (hC : h.get? C = some (excClassObj nm q C N bs bm hdct sn sub ab col dd k0 k1 k2 k3 k5 newId)) (hn : h.Ns N mN) (hi : mN "__init__" = some (.ref fI)) (hfI : h.get? fI = some oI) (hfc : oI.cls = .type "function")
    (hq : ∀ h' e, Heap.MadeExcOf h h' e (.ref C) rest → wpAny (model prog w) A (call (.ref fI) (.ref e :: rest)) (fun r s' => r = .none ∧ Q (.done (.ret (.ref e))) s') E ⟨h', g, d, t, os⟩) (hrest : rest.length ≤ sizeLine) :
    wpAny (model prog w) A (Builtin.«type.__call__» ⟨.ref C :: rest, []⟩) Q E ⟨h, g, d, t, os⟩ := by
  repeat (first | with_reducible refine wpAny_loadPart_at hC ?_ | with_reducible refine wpAny_madeBy_exc hC ?_ | wp_step)
  refine codeAny_call_builtin_code (Code.quiet_builtin _ Fn.quiet) (wpAny_check_new_subU Fn hBn T hC ?_)
  refine codeAny_exc_new_subU Fn hBn F T hC ?_ hrest
  show wpAny _ _ _ _ _ _
  have hC₁ := Heap.get?_push_of_some { cls := .ref C, data := .fields #[.ref h.objs.size, .none, .none, .none, .bool false, .none] }
    (Heap.get?_push_of_some { cls := .type "tuple", data := .seq rest.toArray } hC)
  have hfI₁ := Heap.get?_push_of_some { cls := .ref C, data := .fields #[.ref h.objs.size, .none, .none, .none, .bool false, .none] }
    (Heap.get?_push_of_some { cls := .type "tuple", data := .seq rest.toArray } hfI)
  have hn₁ : ((h.push { cls := .type "tuple", data := .seq rest.toArray }).push { cls := .ref C, data := .fields #[.ref h.objs.size, .none, .none, .none, .bool false, .none] }).Ns N mN :=
    let ⟨o, es, ep, e, r⟩ := hn; ⟨o, es, ep, Heap.get?_push_of_some _ (Heap.get?_push_of_some _ e), r⟩
  have hget : ((h.push { cls := .type "tuple", data := .seq rest.toArray }).push
      { cls := .ref C, data := .fields #[.ref h.objs.size, .none, .none, .none, .bool false, .none] }).get? (h.objs.size + 1) = some
      { cls := .ref C, data := .fields #[.ref h.objs.size, .none, .none, .none, .bool false, .none] } := by heap_get
  have hcC : (Value.ref C :: bm).contains (.ref C) = true := by simp
  have T₁ := T.keeps (h' := (h.push { cls := .type "tuple", data := .seq rest.toArray }).push { cls := .ref C, data := .fields #[.ref h.objs.size, .none, .none, .none, .bool false, .none] })
    fun b o e => Heap.get?_push_of_some _ (Heap.get?_push_of_some _ e)
  unfold isInstance
  repeat (first | with_reducible refine wpAny_loadPart_at hget ?_ | (with_reducible refine wpAny_isSubtype_exc hC₁ ?_; rw [hcC]) | wp_step)
  show wpAny _ _ (typeLookup (.ref C) _) _ _ _
  refine wpAny_typeLookup_tail hC₁ hn₁ T₁ F.mroIs F.init.lookup ?_
  rw [hi]
  refine wpAny_holding (wpAny_bind ?_)
  unfold bindSpecial
  refine wpAny_bind (wpAny_typeOf (T := "function") ⟨_, hfI₁, hfc⟩ ?_)
  rw [if_pos (by decide)]
  refine wpAny_pure (wpAny_bind (wpAny_mono (hq _ (h.objs.size + 1) ⟨fun b o hb => Heap.get?_push_of_some _ (Heap.get?_push_of_some _ hb), Heap.get?_none_of_le (Nat.le_succ _), h.objs.size, hget, Heap.get?_none_of_le (Nat.le_refl _), ?_⟩) (fun r s' hr => ?_) fun _ _ x => x))
  · exact Heap.get?_push_of_some _ (Heap.get?_push_at rfl rfl)
  · obtain ⟨rfl, hQ⟩ := hr
    wp_walk
    exact hQ
theorem call_initU (Fn : ExcBaseFacts Bn newId inN bmN) (hBn : bmB.contains (.type Bn) = true) (F : ExcBaseFacts B nid initId bmB) (T : OwnTail h bmB bm) {mN : Str → Option Value} {rest : List Value} {fI : Addr} {oI : Obj} {Q : Value → Shared → Prop}
    (hC : h.get? C = some (excClassObj nm q C N bs bm hdct sn sub ab col dd k0 k1 k2 k3 k5 newId)) (hn : h.Ns N mN) (hi : mN "__init__" = some (.ref fI)) (hfI : h.get? fI = some oI) (hfc : oI.cls = .type "function")
    (hq : ∀ h' e, Heap.MadeExcOf h h' e (.ref C) rest → wpAny (model prog w) (A.under (.builtin "type.__call__" ⟨.ref C :: rest, []⟩)) (call (.ref fI) (.ref e :: rest)) (fun r s' => r = .none ∧ Q (.ref e) s') E ⟨h', g, d, t, os⟩) (hrest : rest.length ≤ sizeLine) :
    wpAny (model prog w) A (call (.ref C) rest) Q E ⟨h, g, d, t, os⟩ := by
  have f1 := tc_lookup
  have f2 := tc_bind (.ref C)
  have hT : (⟨h, g, d, t, os⟩ : Shared).TypeIs (.ref C) "type" := ⟨_, hC, rfl⟩
  refine wpAny_call (codeAny_of_tree ?_)
  show wpAny _ _ (callAny (.ref C) _) _ _ _
  repeat (any_goals (first | assumption | with_reducible refine wpAny_loadPart_at hC ?_ | wp_step))
  refine ⟨rfl, ?_⟩
  refine codeAny_call_builtin_at (Code.quiet_builtin _ (by decide +kernel)) entry_typeCall (wpAny_check_type_call_sub hC (type_call_initU (hrest := hrest) Fn hBn F T hC hn hi hfI hfc fun h' e hm => ?_))
  exact hq h' e hm
end
section
variable {prog : Program} {w : World} {A : Around} {E : Value → Shared → Prop} {s : Shared} {env : Env}
variable {nm q : Str} {C N : Addr} {bs bm bmB : List Value} {hdct : Bool} {sn : List Str} {sub : List Value} {ab : Bool} {col : Option Bool} {dd : Option Addr} {k0 k1 k2 k3 k5 : Option Value} {B Bn newId nid initId inN : String} {bmN : List Value}
theorem Raise_initU (Fn : ExcBaseFacts Bn newId inN bmN) (hBn : bmB.contains (.type Bn) = true) (F : ExcBaseFacts B nid initId bmB) {mN : Str → Option Value} {fI : Addr} {oI : Obj} {x : Str} {np cpos pos : Pos} {args : List Expr} {Q : Flow → Shared → Prop}
    (hbase : bm.contains (.type "BaseException") = true) (hh : A.handled = none) (hplain : (backTo cpos (starEach args env)).any (·.1) = false) (hi : mN "__init__" = some (.ref fI)) (hfc : oI.cls = .type "function")
    (h : wpAny (model prog w) A (eval (.Name x np) env) (fun f s₁ => f = .ref C ∧ wpAny (model prog w) A (evalArgs (.ref C) true (backTo cpos (starEach args env)) [])
      (fun a s₂ => a.kw = [] ∧ a.pos.length ≤ sizeLine ∧ s₂.heap.get? C = some (excClassObj nm q C N bs bm hdct sn sub ab col dd k0 k1 k2 k3 k5 newId) ∧ s₂.heap.Ns N mN ∧ s₂.heap.get? fI = some oI ∧ OwnTail s₂.heap bmB bm ∧
        ∀ h' e, Heap.MadeExcOf s₂.heap h' e (.ref C) a.pos → wpAny (model prog w) (A.under (.builtin "type.__call__" ⟨.ref C :: a.pos, []⟩)) (call (.ref fI) (.ref e :: a.pos)) (fun r s' => r = .none ∧ ∃ ob, s'.heap.get? C = some (excClassObj nm q C N bs bm hdct sn sub ab col dd k0 k1 k2 k3 k5 newId) ∧ s'.heap.get? e = some ob ∧ ob.cls = .ref C ∧ (∃ fs, ob.data = .fields fs ∧ fs[1]? = some Value.none) ∧ E (.ref e) s') E { s₂ with heap := h' }) E s₁) E s) :
    wpAny (model prog w) A (exec (.Raise (some (.Call (.Name x np) args [] cpos)) none pos) env) Q E s := by
  rw [arm_exec_Raise]
  first
    | refine wpAny_bind (wpAny_standAt (raiseStmt_obj (C := C) (nm := nm) (q := q) (N := N) (bs := bs) (bm := bm) (hdct := hdct) (sn := sn) (sub := sub) (ab := ab) (col := col) (dd := dd) (k0 := k0) (k1 := k1) (k2 := k2) (k3 := k3) (k5 := k5) (newId := newId) hbase hh (wpAny_bind (wpAny_mono (wpAny_Call_ofName (wpAny_mono h (fun f s₁ h₁ => ?_) fun _ _ x => x)) (fun v s₃ h₃ => wpAny_bind (wpAny_standAt (wpAny_pure h₃))) fun _ _ x => x))))
    | (simp only [evalOpt, Option.map]; refine wpAny_bind (wpAny_standAt (raiseStmt_obj (C := C) (nm := nm) (q := q) (N := N) (bs := bs) (bm := bm) (hdct := hdct) (sn := sn) (sub := sub) (ab := ab) (col := col) (dd := dd) (k0 := k0) (k1 := k1) (k2 := k2) (k3 := k3) (k5 := k5) (newId := newId) hbase hh (wpAny_bind (wpAny_mono (wpAny_Call_ofName (wpAny_mono h (fun f s₁ h₁ => ?_) fun _ _ x => x)) (fun v s₃ h₃ => wpAny_bind (wpAny_standAt (wpAny_pure h₃))) fun _ _ x => x)))))
    | (refine wpAny_bind (wpAny_standAt (raiseStmt_obj (C := C) (nm := nm) (q := q) (N := N) (bs := bs) (bm := bm) (hdct := hdct) (sn := sn) (sub := sub) (ab := ab) (col := col) (dd := dd) (k0 := k0) (k1 := k1) (k2 := k2) (k3 := k3) (k5 := k5) (newId := newId) hbase hh ?_)); refine wpAny_bind (wpAny_mono (wpAny_Call_ofName (wpAny_mono h (fun f s₁ h₁ => ?_) fun _ _ x => x)) (fun v s₃ h₃ => wpAny_bind (wpAny_standAt (wpAny_pure h₃))) fun _ _ x => x))
  obtain ⟨rfl, h₁⟩ := h₁
  unfold callWith
  refine wpAny_bind (wpAny_holding (wpAny_mono h₁ (fun a s₂ h₂ => wpAny_bind (wpAny_standAt ?_)) fun _ _ x => x))
  obtain ⟨apos, akw⟩ := a
  obtain ⟨hkw, hlen, hC, hn, hf, T, h₂⟩ := h₂
  obtain rfl : akw = [] := hkw
  obtain ⟨hp, g, d, tk, os⟩ := s₂
  simp only [hplain]
  refine wpAny_bind (wpAny_keeperOf_exc hC ?_)
  refine wpAny_bind (call_initU (hrest := hlen) Fn hBn F T hC hn hi hf hfc fun h' e hm => wpAny_mono (h₂ h' e hm) (fun r s' ⟨hr, ob, c1, c2, c3, c4, c5⟩ => ⟨hr, wpAny_bind (wpAny_holding (wpAny_point (wpAny_pure ?_)))⟩) fun _ _ x => x)
  exact ⟨e, ob, rfl, c1, c2, c3, c4, c5⟩
end
end L9
namespace L9
open PySem PySem.W PyProof.Rows Builtin Builtin.ObjectAttr
noncomputable abbrev mVE : List Value := [.type "ValueError", .type "Exception", .type "BaseException", .type "object"]
section
variable {prog : Program} {w : World} {A : Around} {K : Frag} {B C x : Addr} {s : Shared} {R : Result → Shared → Prop} {cd : ClassData} {name : Str} {tk : Tok} {v : Value} {fs : Array Value}
theorem osa_exc (X : K.In s.heap) (hc : clsIn K C = some cd) (hm : cd.mro = .ref C :: .ref B :: mVE) (hd : cd.hasDict = true) (hn : findIn K (.ref C) name = some none) (hx : s.heap.get? x = some ⟨.ref C, none, .fields fs, #[]⟩)
    (hq : ∀ h' tk', h'.get? x = some ⟨.ref C, some s.heap.objs.size, .fields fs, #[]⟩ → h'.Ns1 s.heap.objs.size (fun y => if y = name then some v else none) → (∀ b o, b ≠ x → s.heap.get? b = some o → h'.get? b = some o) → R (.ok (.ret .none)) { s with heap := h', toks := tk' }) :
    codeAny (model prog w) A (.call (.builtin "object.__setattr__") ⟨[.ref x, .str name tk, v], []⟩) R s := by
  have I : InstAt s.heap x ⟨.ref C, none, .fields fs, #[]⟩ C none := ⟨hx, rfl, rfl, True.intro⟩
  have SF := PySem.F.store_object
  have sub : Looks (model prog w) s.heap (isInstance (.ref x) (.type "object")) true := I.type.andThen (looks_mroIn X (by unfold mroIn; rw [hc, Option.bind_some, hm, if_neg (by simp)]; simp))
  refine codeAny_call_builtin SF.slot.plain SF.entry (@check_slot (model prog w) _ _ s "object.__setattr__" "object" "__setattr__" (.ref x) [.str name tk, v] [] _ SF.kind SF.split sub (SF.args (.ref x) (.str name tk) v) ?_)
  have hmr : Looks (model prog w) s.heap (mroOf (.ref C)) cd.mro := (looks_clsIn X hc).andThen .now
  rw [osa_eq, refuse_eq]
  refine wpAny_bind (wpAny_bind (I.type.here (wpAny_bind (hmr.here ?_))))
  rw [hm, refuseLoop_ref, refuseLoop_ref, PySem.F.store_ValueError.passes]
  refine wpAny_pure (wpAny_bind (I.type.here (wpAny_bind ((looks_findIn X hn).here (wpAny_bind (wpAny_pure ?_))))))
  show wpAny _ _ (storeInOwnDict (.ref x) (.ref C) (.str name tk) name v _) _ _ _
  unfold storeInOwnDict
  refine wpAny_bind (wpAny_pure (wpAny_bind ?_))
  unfold ownDictForStores instanceDict
  refine wpAny_bind (wpAny_loadPart hx (wpAny_bind ((looks_clsIn X hc).here ?_)))
  rw [hd, if_neg (by decide)]
  show wpAny _ _ (if (!true || !typeHasDict (.ref C)) = true then pure none else (do
                let d ← alloc { cls := Value.type "dict", data := Data.dict #[] }
                update x fun o => { cls := o.cls, dict := some d, data := o.data, slots := o.slots }
                dictMade (.ref C) x d)) _ _ _
  rw [if_neg (by simp [typeHasDict])]
  obtain ⟨h, g, d, t, os⟩ := s
  dsimp only at X hx hq I sub hmr ⊢
  have hx1 : (h.push { cls := .type "dict", data := .dict #[] }).get? x = some ⟨.ref C, none, .fields fs, #[]⟩ := Heap.get?_push_of_some _ hx
  have hxs : x ≠ h.objs.size := Nat.ne_of_lt (Heap.lt_size hx)
  refine wpAny_bind (wpAny_alloc' ?_)
  refine wpAny_bind (wpAny_update' hx1 ?_)
  refine wpAny_pure ?_
  have hgd : ((h.push { cls := .type "dict", data := .dict #[] }).update x fun o => { cls := o.cls, dict := some h.objs.size, data := o.data, slots := o.slots }).get? h.objs.size
      = some { cls := .type "dict", data := .dict #[] } :=
    (Heap.get?_update_ne _ _ _ _ hxs.symm).trans (Heap.get?_push_at rfl rfl)
  have hnd : ((h.push { cls := .type "dict", data := .dict #[] }).update x fun o => { cls := o.cls, dict := some h.objs.size, data := o.data, slots := o.slots }).Ns h.objs.size (fun _ => none) :=
    ⟨_, #[], _, hgd, rfl, fun e he => absurd he (by simp), fun _ => rfl⟩
  show wpAny _ _ (storeInDict h.objs.size (.str name tk) name v) _ _ _
  unfold storeInDict newKeyGuard
  refine wpAny_bind (wpAny_pure (wpAny_bind (wpAny_nsSet1 (Heap.Ns1.of_empty hnd) fun h' hn' hs => ?_)))
  obtain ⟨oD, esD, epD, hoD, hdD, hcD⟩ := hn'.count (Within.cons name v Within.nil)
  refine wpAny_bind (wpAny_lookBehind hoD (by rw [hdD]; exact pastItsLine_dict (Nat.le_trans hcD (by rw [List.length_cons, List.length_nil, sizeLine_eq]; omega))) ?_)
  refine wpAny_pure (hq h' _ ?_ ?_ fun b ob hbx hb => ?_)
  · exact (hs.2 x hxs).trans (Heap.get?_update_self _ hx1 rfl)
  · obtain ⟨o', es, ep, e1, e2, e3, eu, e4⟩ := hn'
    exact ⟨o', es, ep, e1, e2, e3, eu, fun y => by rw [e4 y]⟩
  · exact (hs.2 b (Nat.ne_of_lt (Heap.lt_size hb))).trans ((Heap.get?_update_ne _ _ _ _ hbx).trans (Heap.get?_push_of_some _ hb))
theorem set_exc {E : Value → Shared → Prop} {Q : Unit → Shared → Prop} (X : K.In s.heap) (hc : clsIn K C = some cd) (hm : cd.mro = .ref C :: .ref B :: mVE) (hd : cd.hasDict = true) (hsa : findIn K (.ref C) "__setattr__" = some (some (.builtin "object.__setattr__"))) (hn : findIn K (.ref C) name = some none) (hx : s.heap.get? x = some ⟨.ref C, none, .fields fs, #[]⟩)
    (hq : ∀ h' tk', h'.get? x = some ⟨.ref C, some s.heap.objs.size, .fields fs, #[]⟩ → h'.Ns1 s.heap.objs.size (fun y => if y = name then some v else none) → (∀ b o, b ≠ x → s.heap.get? b = some o → h'.get? b = some o) → Q () { s with heap := h', toks := tk' }) :
    wpAny (model prog w) A (setAttr (.ref x) name v) Q E s :=
  set_plain X (⟨hx, rfl, rfl, True.intro⟩ : InstAt s.heap x ⟨.ref C, none, .fields fs, #[]⟩ C none) hsa (osa_exc (s := { s with toks := s.toks + 1 }) X hc hm hd hn hx hq)
end
section
variable {prog : Program} {w : World} {A : Around} {E : Value → Shared → Prop} {h : Heap} {g : Array GenState} {d : Drawn} {t : Nat} {os : OsState}
variable {nm q : Str} {C N : Addr} {bs bm bmB : List Value} {hdct : Bool} {sn : List Str} {sub : List Value} {ab : Bool} {col : Option Bool} {dd : Option Addr} {k0 k1 k2 k3 k5 : Option Value} {B newId nid initId : String}
theorem init_excU (F : ExcBaseFacts B nid initId bmB) (T : OwnTail h bmB bm) {e : Addr} {fs : Array Value} {t0 : Addr} {rest : List Value} {Q : Value → Shared → Prop}
    (hC : h.get? C = some (excClassObj nm q C N bs bm hdct sn sub ab col dd k0 k1 k2 k3 k5 newId)) (he : h.get? e = some ⟨.ref C, none, .fields fs, #[]⟩) (h0 : fs[0]? = some (.ref t0))
    (hq : ∀ h' fs', h'.get? e = some ⟨.ref C, none, .fields fs', #[]⟩ → fs'[0]? = some (.ref h.objs.size) → (∀ i, i ≠ 0 → fs'[i]? = fs[i]?) → (∀ b o, b ≠ e → h.get? b = some o → h'.get? b = some o) → Q .none ⟨h', g, d, t, os⟩) (hrest : rest.length ≤ sizeLine) :
    wpAny (model prog w) A (call (.builtin initId) (.ref e :: rest)) Q E ⟨h, g, d, t, os⟩ := by
  refine wpAny_call (codeAny_call_builtin F.init.plain F.initEntry (wpAny_check_init_subU F T hC he rfl ?_))
  unfold Builtin.«BaseException.__init__»
  dsimp only
  rw [if_neg (by simp)]
  unfold newTuple Builtin.BaseException.bexcPut
  have hsz : 0 < fs.size := (Array.getElem?_eq_some_iff.mp h0).1
  have he1 : (h.push { cls := .type "tuple", data := .seq rest.toArray }).get? e = some ⟨.ref C, none, .fields fs, #[]⟩ := Heap.get?_push_of_some _ he
  refine wpAny_bind (wpAny_newObj_type (wpAny_bind (wpAny_bind (wpAny_field he1 rfl h0 (wpAny_bind (wpAny_setField he1 rfl hsz ?_))))) (by show rest.toArray.size ≤ sizeLine; rw [List.size_toArray]; exact hrest))
  refine wpAny_letGo (wpAny_pure (hq _ (fs.setIfInBounds 0 (.ref h.objs.size)) ?_ (by simp [hsz]) (fun i hi => by rw [Array.getElem?_setIfInBounds_ne (Ne.symm hi)]) fun b o hb z => ?_))
  · exact Heap.get?_update_self (Obj.mapFields (·.setIfInBounds 0 (.ref h.objs.size))) he1 rfl
  · exact (Heap.get?_update_other _ _ (Ne.symm hb)).trans (Heap.get?_push_of_some _ z)
end
end L9
namespace L9
open PySem PySem.Spec PyProof.Rows L2
noncomputable def FsV (v : V) : Prop := v = .non ∨ ∃ i : Int, v = .int i ∧ i.natAbs.log2 < 1920
theorem int_len {i : Int} (h : i.natAbs.log2 < 1920) : (Str.ofString (toString i)).length ≤ 5000 := by
  have e := int_text_length_le (k := 1920) (by decide) h
  rw [PySem.ofString_length]
  omega
theorem fmt_ok {X : Cx} {pins : List (Addr × Obj)} {σ : L2.St} {H : Hp} {s : Shared} {v : V} {u : Value} {Q : Value → Shared → Prop} {E : Value → Shared → Prop} {A : Around} (I : Inv X pins σ H s) (r : RelV v u) (f : FsV v)
    (h : ∀ (y : Str) (t : Tok) (s' : Shared), y.length ≤ 5000 → Inv X pins σ H s' → Q (.str y t) s') : wpAny (model X.prog X.w) A (formatField u Str.empty) Q E s := by
  rcases f with rfl | ⟨i, rfl, hi⟩
  · obtain rfl : u = .none := r
    exact wpAny_formatField_none (h _ _ _ (by decide) (I.tok _))
  · obtain ⟨t, rfl⟩ := r
    exact formatField_int_small hi (h _ _ _ (int_len hi) (I.tok _))
noncomputable def PJ (X : Cx) (es : List Expr) (n : Nat) (t : L2.St → Hp → (Hp → Prop) → Prop) : Prop :=
  ∀ (pins : List (Addr × Obj)) (s : Shared) (σ : L2.St) (H : Hp) (out : Str) (Q : Hp → Prop), Inv X pins σ H s → out.length + n ≤ 1000000 → t σ H Q →
    wpAny (model X.prog X.w) X.A (joinParts out (evalEach es X.env)) (fun v s' => ∃ (y : Str) (tk : Tok) (H' : Hp), v = .str y tk ∧ Inv X pins σ H' s' ∧ Q H') X.xe s
section
variable {X : Cx} {e : Expr} {es : List Expr} {n : Nat} {te : TE} {t : L2.St → Hp → (Hp → Prop) → Prop} {pos : Pos}
theorem pj_nil : PJ X [] 0 (fun _ H Q => Q H) := by
  intro pins s σ H out Q I hl h
  exact joinParts_nil ⟨_, _, H, rfl, I.tok _, h⟩ (by rw [sizeLine_eq]; omega)
theorem pj_lit {x : Str} {k : Nat} (hx : x.length ≤ 5000) (hr : PJ X es n t) : PJ X (.Constant (.str x) k pos :: es) (n + 5000) t := by
  intro pins s σ H out Q I hl h
  refine joinParts_consE (joinParts_cons (Calls.Constant_str ?_))
  have e := strLen_append out x
  exact ⟨by rw [sizeLine_eq]; omega, hr pins _ σ H (out ++ x) Q (I.tok _) (by omega) h⟩
theorem pj_fmt (he : PE X e te) (hr : PJ X es n t) : PJ X (.FormattedValue e (-1) none pos :: es) (n + 5000) (fun σ H Q => te σ H fun v H1 => FsV v ∧ t σ H1 Q) := by
  intro pins s σ H out Q I hl h
  refine joinParts_consE (joinParts_cons (FormattedValue_plain (thn (he pins s σ H _ I h) fun u s1 ⟨v, H1, I1, r, f, q⟩ => ?_)))
  refine fmt_ok I1 r f fun y tk s' hy I' => ?_
  have e := strLen_append out y
  exact ⟨by rw [sizeLine_eq]; omega, hr pins _ σ H1 (out ++ y) Q I' (by omega) q⟩
theorem pe_fstr {e1 e2 : Expr} {t : L2.St → Hp → (Hp → Prop) → Prop} (h : PJ X (e1 :: e2 :: es) n t) (hn : n ≤ 900000) : PE X (.JoinedStr (e1 :: e2 :: es) pos) (fun σ H Q => t σ H fun H1 => ∀ y : Str, Q (.str y) H1) := by
  intro pins s σ H Q I hw
  refine JoinedStr_many (thn (h pins s σ H Str.empty _ I (by show 0 + n ≤ 1000000; omega) hw) fun v s1 ⟨y, tk, H1, hv, I1, q⟩ => ?_)
  subst hv
  exact ⟨.str y, H1, I1, ⟨_, rfl⟩, q y⟩
end
end L9
namespace L9
open PySem PySem.Spec PyProof.Rows L2
noncomputable def ExN (C e : Addr) : Heap → Prop := fun h => ∃ fs t0, h.get? e = some ⟨.ref C, none, .fields fs, #[]⟩ ∧ fs[0]? = some (.ref t0) ∧ fs[1]? = some .none
noncomputable def ExD (C e p : Addr) : Heap → Prop := fun h => ∃ fs a0, h.get? e = some ⟨.ref C, some p, .fields fs, #[]⟩ ∧ fs[0]? = some a0 ∧ fs[1]? = some .none
structure XC (K : PySem.W.Frag) (C B fI : Addr) : Prop where
  obj : ∃ nm q N bs sn sub ab col dd k0 k1 k2 k3 k5, K.lookup C = some (excClassObj nm q C N bs (.ref B :: mVE) true sn sub ab col dd k0 k1 k2 k3 k5 "ValueError.__new__") ∧ PySem.W.nsOkIn K N = true ∧ PySem.W.nsIn K N "__init__" = some (some (.ref fI))
  base : PySem.W.excIn K B mVE "ValueError.__new__" = true
  sa : PySem.W.findIn K (.ref C) "__setattr__" = some (some (.builtin "object.__setattr__"))
theorem tail_exc {K : PySem.W.Frag} {B : Addr} {n : String} (q : PySem.W.excIn K B mVE n = true) : PySem.W.tailIn K mVE (.ref B :: mVE) = true := by
  unfold PySem.W.excIn at q
  split at q
  · rename_i dd cd sl ho
    split at q
    · simp only [Bool.and_eq_true, beq_iff_eq, Bool.not_eq_true'] at q
      obtain ⟨⟨⟨⟨⟨_, _⟩, _⟩, _⟩, hok⟩, hni⟩ := q
      unfold PySem.W.tailIn
      dsimp only
      rw [ho]
      dsimp only
      rw [hok, hni, show PySem.W.tailIn K mVE mVE = true from by unfold PySem.W.tailIn; rw [beq_self_eq_true, Bool.true_or], beq_self_eq_true, Bool.and_self, Bool.and_self, Bool.or_true]
    · cases q
  · cases q
section
variable {X : Cx} {B C fI : Addr} {pos p1 p2 : Pos} {a1 : Expr} {as : List Expr} {t : TA} {b : Str}
theorem upd_self {H : Hp} {a : Addr} {o : HO} (h : H a = some o) : upd H a o = H := by
  funext c
  by_cases z : c = a
  · rw [z, upd_same, h]
  · rw [upd_ne z]
noncomputable def tBInit (C : Addr) (t : TA) : TE := fun σ H Q => t σ H fun vs H1 => ∃ e y, vs = [.ref e, .str y] ∧ H1 e = some (.ext (ExN C e)) ∧ Q .non H1
theorem pe_binit {pl : Sem Bool} (hg : Gl X b) (hm : X.mg b = some (.ref B)) (hr : PySem.W.readsIn X.K B (.type "type") = true) (hf : PySem.W.findCls X.K (.ref B) (.type "type") "__init__" = some (.val (.builtin "ValueError.__init__")))
    (hs : PySem.W.specialIn X.K (.ref B) "__getattribute__" = some (some (.builtin "type.__getattribute__"))) (hC : XC X.K C B fI) (ha : PA X (a1 :: as) t)
    (hst : starEach (a1 :: as) X.env = (false, eval a1 X.env) :: starEach as X.env := by rfl) (hpl : (backTo pos (starEach as X.env)).any (·.1) = false := by rfl) (hdb : (b == ("__debug__" : Str)) = false := by decide)
    (ht : eval (.Call (.Attribute (.Name b p1) "__init__" p2) (a1 :: as) [] pos) X.env = (do
      let ov ← eval (.Name b p1) X.env
      standAt p2.atName
      let (f, first) ← holding [ov] (getMethod ov "__init__" pl)
      callWith pos f first (backTo pos (starEach (a1 :: as) X.env)) (backToKw pos (keywordEach [] X.env))) := by rfl) :
    PE X (.Call (.Attribute (.Name b p1) "__init__" p2) (a1 :: as) [] pos) (tBInit C t) := by
  intro pins s σ H Q I h
  refine PySem.W.methodCall_KW (pl := pl) (ld_glob I hg hm ?_ hdb) ht
  refine PySem.W.method_cls I.kIn hs (PySem.W.cls_value I.kIn hr hf (by decide) ?_)
  have hA := ha pos pins { s with toks := s.toks + 1 } σ H _ (I.tok _) h
  rw [hst] at hA ⊢
  refine Calls.callWith_builtin (by show (false || (backTo pos (starEach as X.env)).any (·.1)) = false; rw [hpl] <;> rfl) (Calls.evalArgs_plain (thn hA fun us s2 ⟨vs, H2, I2, r, e, y, ev, hE, q⟩ => ?_))
  subst ev
  obtain ⟨u1, u2, rfl, r1, r2⟩ := vals2 r
  obtain rfl : u1 = .ref e := r1
  obtain ⟨tk, rfl⟩ := r2
  obtain ⟨⟨fs, t0, g1, g2, g3⟩, _, gk⟩ := (show ObjOk X.prog X.w H2 s2.heap e (.ext (ExN C e)) from I2.hok e _ hE)
  obtain ⟨nm, q', N, bs, sn, sub, ab, col, dd, k0, k1, k2, k3, k5, lk, hok, hin⟩ := hC.obj
  have T := PySem.W.tail_of_in I2.kIn (tail_exc hC.base)
  obtain ⟨h2, g, d, tk2, os⟩ := s2
  refine init_excU PySem.F.excBase_ValueError T (I2.kIn _ _ lk) g1 g2 (fun h' fs' e1 e2 e3 e4 => ?_) (by show 1 ≤ sizeLine; decide)
  refine ⟨.non, H2, ?_, rfl, q⟩
  have w := I2.write (x := e) (e := e) (o := .ext (ExN C e)) (h' := h') (t' := tk2) (by rw [hE]; exact True.intro) (.inl rfl) (fun b u hb z => e4 b u hb z) ⟨_, e1⟩ ⟨⟨fs', _, e1, e2, by rw [e3 1 (by decide)]; exact g3⟩, ⟨_, e1⟩, fun h1 h2 ⟨f1, t1, z1, z2, z3⟩ hk => ⟨f1, t1, hk _ z1, z2, z3⟩⟩
  rw [upd_self hE] at w
  exact w
noncomputable def tSetX (C : Addr) (f : Str) (ta tv : TE) : TS := fun D σ H => tv σ H fun v H1 => ta σ H1 fun x H2 => ∃ e, x = .ref e ∧ H2 e = some (.ext (ExN C e)) ∧ ∀ p, H2 p = none → p ≠ e → D.nx σ (upd (upd H2 e (.ext (ExD C e p))) p (.xd [(f, v)]))
theorem ps_setX {o value : Expr} {f : Str} {ta tv : TE} {pos' : Pos} (hC : XC X.K C B fI) (hn : PySem.W.findIn X.K (.ref C) f = some none) (ha : PE X o ta) (hv : PE X value tv) (hs : swapsWith value (some (.Attribute o f pos')) pos.line X.env = pure false) : PS X (.Assign [.Attribute o f pos'] value pos) (tSetX C f ta tv) := by
  intro pins s σ H D I h
  refine plainObj_wpAny_Assign_Attribute (thn (hv pins s σ H _ I h) fun u s1 ⟨v, H1, I1, rv, q⟩ => thn (ha pins s1 σ H1 _ I1 q) fun ov s2 ⟨x, H2, I2, rx, e, ex, hE, q2⟩ => ?_) hs
  subst ex
  obtain rfl : ov = Value.ref e := rx
  obtain ⟨⟨fs, t0, g1, g2, g3⟩, _, gk⟩ := (show ObjOk X.prog X.w H2 s2.heap e (.ext (ExN C e)) from I2.hok e _ hE)
  obtain ⟨nm, q', N, bs, sn, sub, ab, col, dd, k0, k1, k2, k3, k5, lk, hok, hin⟩ := hC.obj
  obtain ⟨cd, hc, hmr, hdc⟩ : ∃ cd, PySem.W.clsIn X.K C = some cd ∧ cd.mro = .ref C :: .ref B :: mVE ∧ cd.hasDict = true := by
    unfold PySem.W.clsIn
    rw [lk]
    exact ⟨_, rfl, rfl, rfl⟩
  refine set_exc I2.kIn hc hmr hdc hC.sa hn g1 fun h' tk' e1 e2 e3 => ?_
  have pe : s2.heap.objs.size ≠ e := Nat.ne_of_gt (Heap.lt_size g1)
  have pn : H2 s2.heap.objs.size = none := I2.hok.fresh (Nat.le_refl _)
  refine ⟨σ, _, ?_, q2 s2.heap.objs.size pn pe⟩
  have there : ∀ b o, s2.heap.get? b = some o → b ≠ s2.heap.objs.size := fun b o z => Nat.ne_of_lt (Heap.lt_size z)
  refine I2.un (h' := h') (t' := tk') (H' := upd (upd H2 e (.ext (ExD C e s2.heap.objs.size))) s2.heap.objs.size (.xd [(f, v)])) ⟨fun b o z n _ _ => e3 b o (fun y => by rw [y, hE] at n; cases n) z, fun b o z n _ _ => ⟨o.slots, e3 b o (fun y => by rw [y, hE] at n; cases n) z⟩, fun b o z n _ => ?_, fun b o z _ => ?_, fun b xs z => ?_, fun b o u z => ?_, fun b ps z => ⟨#[], ?_⟩⟩ ?_
  · rw [upd_ne (there b o z), upd_ne (fun y => by rw [y, hE] at n; cases n)]
    exact n
  · by_cases y : b = e
    · subst y
      exact ⟨_, e1⟩
    · exact ⟨o, e3 b o y z⟩
  · rw [upd_ne (fun y => by rw [y, pn] at z; cases z), upd_ne (fun y => by rw [y, hE] at z; cases z)]
    exact z
  · rw [upd_ne (fun y => by rw [y, pn] at z; cases z), upd_ne (fun y => by rw [y, hE] at z; cases z)]
    exact z
  · rw [upd_ne (fun y => by rw [y, pn] at z; cases z), upd_ne (fun y => by rw [y, hE] at z; cases z), z]
    simp
  · intro a o z
    by_cases ya : a = s2.heap.objs.size
    · subst ya
      rw [upd_same] at z
      cases z
      refine ⟨_, e2, fun g => ?_⟩
      show RelO (match g == f with | true => some v | false => List.lookup g []) (if g = f then some u else none)
      cases hb : g == f with
      | true => rw [if_pos (beq_iff_eq.mp hb)]; exact rv
      | false => rw [if_neg (fun w => by rw [beq_iff_eq.mpr w] at hb; cases hb)]; exact True.intro
    · rw [upd_ne ya] at z
      by_cases yb : a = e
      · subst yb
        rw [upd_same] at z
        cases z
        exact ⟨⟨fs, _, e1, g2, g3⟩, ⟨_, e1⟩, fun h1 h2 ⟨f1, t1, z1, z2, z3⟩ hk => ⟨f1, t1, hk _ z1, z2, z3⟩⟩
      · rw [upd_ne yb] at z
        have own : ∀ b, H2 b = some (.own a) → b ≠ e ∧ b ≠ s2.heap.objs.size := fun b y => ⟨(fun k => by rw [k, hE] at y; cases y), (fun k => by rw [k, pn] at y; cases y)⟩
        refine (I2.hok a o z).stay (fun b w hb y => e3 b w (fun k => ?_) y) (fun b y => by rw [upd_ne (own b y).2, upd_ne (own b y).1]; exact y) fun b xs y => by rw [upd_ne (fun k => by rw [k, pn] at y; cases y), upd_ne (fun k => by rw [k, hE] at y; cases y)]; exact y
        rcases hb with hb | hb
        · exact yb (hb.symm.trans k)
        · exact (own b hb).1 k
end
end L9
namespace L9
open PySem PySem.Spec PyProof.Rows L2 L4
noncomputable def rem (H : Hp) (e : Addr) : Hp := fun a => if a = e then none else H a
theorem rem_self {H : Hp} {e : Addr} : rem H e e = none := if_pos rfl
theorem rem_ne {H : Hp} {e a : Addr} (h : a ≠ e) : rem H e a = H a := if_neg h
theorem ns_some_of {K : PySem.W.Frag} {h : Heap} {N : Addr} {mg : Str → Option Value} {n : Str} {v : Value} (X : K.In h) (G : h.Ns N mg) (e : PySem.W.nsIn K N n = some (some v)) : mg n = some v := by
  obtain ⟨o, es, ep, ho, hd, _, hf⟩ := G
  unfold PySem.W.nsIn at e
  split at e
  · rename_i es' ep' sl' ho'
    have := (X _ _ ho').symm.trans ho
    cases this
    cases hd
    split at e
    · rename_i en he
      cases e
      rw [← hf]
      unfold nsFind findBy
      rw [← Array.find?_toList, he]
      rfl
    · split at e <;> cases e
  · cases e
theorem fn_cls {K : PySem.W.Frag} {f : Addr} {o : Obj} (i : PySem.W.isFn K (.ref f) = true) (l : K.lookup f = some o) : o.cls = .type "function" := by
  unfold PySem.W.isFn PySem.W.typeIn at i
  dsimp only at i
  rw [l] at i
  exact Option.some.inj (beq_iff_eq.mp i)
section
variable {X : Cx} {pins : List (Addr × Obj)} {σ : L2.St} {H : Hp} {s : Shared} {h' : Heap} {e : Addr} {o : HO}
theorem inv_new {t' : Nat} (I : L2.Inv X pins σ H s) (k : ∀ b u, s.heap.get? b = some u → h'.get? b = some u) (n : s.heap.get? e = none) (new : ObjOk X.prog X.w (upd H e o) h' e o) : L2.Inv X pins σ (upd H e o) { s with heap := h', toks := t' } := by
  have hn := hok_none I.hok n
  have ne : ∀ b u, s.heap.get? b = some u → b ≠ e := fun b u z y => by rw [y, n] at z; cases z
  refine I.un ⟨fun b u z _ _ _ => k b u z, fun b u z _ _ _ => ⟨u.slots, k b u z⟩, fun b u z q _ => by rw [upd_ne (ne b u z)]; exact q, fun b u z _ => ⟨u, k b u z⟩, fun b xs z => ?_, fun b u v z => ?_, fun b ps z => ⟨#[], ?_⟩⟩ ?_
  · rw [upd_ne (fun y => by rw [y, hn] at z; cases z)]; exact z
  · rw [upd_ne (fun y => by rw [y, hn] at z; cases z)]; exact z
  · rw [upd_ne (fun y => by rw [y, hn] at z; cases z), z]; simp
  · intro a u z
    by_cases y : a = e
    · subst y
      rw [upd_same] at z
      cases z
      exact new
    · rw [upd_ne y] at z
      refine (I.hok a u z).stay (fun b w _ q => k b w q) (fun b q => by rw [upd_ne (fun w => by rw [w, hn] at q; cases q)]; exact q) fun b xs q => by rw [upd_ne (fun w => by rw [w, hn] at q; cases q)]; exact q
theorem inv_rem {φ : Heap → Prop} (I : L2.Inv X pins σ H s) (hE : H e = some (.ext φ)) : L2.Inv X pins σ (rem H e) s := by
  have := I.un (h' := s.heap) (t' := s.toks) (H' := rem H e) ⟨fun b u z _ _ _ => z, fun b u z _ _ _ => ⟨u.slots, z⟩, fun b u z q _ => ?_, fun b u z _ => ⟨u, z⟩, fun b xs z => ?_, fun b u v z => ?_, fun b ps z => ⟨#[], ?_⟩⟩ ?_
  · exact this
  · by_cases y : b = e
    · rw [y]; exact rem_self
    · rw [rem_ne y]; exact q
  · rw [rem_ne (fun y => by rw [y, hE] at z; cases z)]; exact z
  · rw [rem_ne (fun y => by rw [y, hE] at z; cases z)]; exact z
  · rw [rem_ne (fun y => by rw [y, hE] at z; cases z), z]; simp
  · intro a u z
    have y : a ≠ e := fun y => by rw [y, rem_self] at z; cases z
    rw [rem_ne y] at z
    exact (I.hok a u z).stay (fun b w _ q => q) (fun b q => by rw [rem_ne (fun w => by rw [w, hE] at q; cases q)]; exact q) fun b xs q => by rw [rem_ne (fun w => by rw [w, hE] at q; cases q)]; exact q
end
noncomputable def tRaiseI (C : Addr) (sp : Sp) (E : XK) (ta : TA) : TS := fun _ σ H => ta σ H fun vs H1 => vs.length ≤ sizeLine ∧ ∀ e, H1 e = none → sp (.ref e :: (vs ++ [])) (upd H1 e (.ext (ExN C e))) (fun v H2 => v = .non ∧ ∃ p, H2 e = some (.ext (ExD C e p)) ∧ E (.ref C) (some p) (rem H2 e)) E0
theorem ps_raiseI {P : Program} {w : World} {K : PySem.W.Frag} {mg : Str → Option Value} {base : Heap} {N : List Str} {qual : Str} {scope : Scope} {f : Addr} {cd : Value} {A : Around} {outer : List Env} {s0 : Shared} {H0 : Hp} {E : XK}
    {C B fI : Addr} {fdI : FuncData} {oI : Obj} {k : Nat} {ps : List Str} {sp : Sp} {x : Str} {e0 : Expr} {es : List Expr} {np cpos pos : Pos} {ta : TA} (hC : XC K C B fI) (lI : K.lookup fI = some oI) (iI : PySem.W.isFn K (.ref fI) = true) (FI : FnOk P w K mg base CX0 k fI fdI ps sp) (bI : Binds K fdI ps [])
    (hr : Room (k + 1) (cxOf (CXe P w) P w K mg base N qual scope f cd A outer s0 H0 E).A)
    (hg : Gl (cxOf (CXe P w) P w K mg base N qual scope f cd A outer s0 H0 E) x) (hm : mg x = some (.ref C)) (ha : PA (cxOf (CXe P w) P w K mg base N qual scope f cd A outer s0 H0 E) (e0 :: es) ta)
    (hdb : (x == ("__debug__" : Str)) = false := by decide)
    (he : starEach (e0 :: es) (cxOf (CXe P w) P w K mg base N qual scope f cd A outer s0 H0 E).env = (false, eval e0 (cxOf (CXe P w) P w K mg base N qual scope f cd A outer s0 H0 E).env) :: starEach es (cxOf (CXe P w) P w K mg base N qual scope f cd A outer s0 H0 E).env := by rfl)
    (hpl : (backTo cpos (starEach es (cxOf (CXe P w) P w K mg base N qual scope f cd A outer s0 H0 E).env)).any (·.1) = false := by rfl) :
    PS (cxOf (CXe P w) P w K mg base N qual scope f cd A outer s0 H0 E) (.Raise (some (.Call (.Name x np) (e0 :: es) [] cpos)) none pos) (tRaiseI C sp E ta) := by
  intro pins s σ H D I h
  obtain ⟨nm, qn, Nn, bs, sn, sub, ab, col, dd, k0, k1, k2, k3, k5, lk, hok, hin⟩ := hC.obj
  have kin := I.ok.mod.kin
  have oC := kin _ _ lk
  have oN : (cxOf (CXe P w) P w K mg base N qual scope f cd A outer s0 H0 E).base.Ns Nn _ := Heap.Ns.of_isNs (PySem.W.isNs_of_in kin hok)
  have ni := ns_some_of kin oN hin
  have oF := kin _ _ lI
  have T := PySem.W.tail_of_in kin (tail_exc hC.base)
  refine Raise_initU (C := C) (nm := nm) (q := qn) (N := Nn) (bs := bs) (bm := .ref B :: mVE) (hdct := true) (sn := sn) (sub := sub) (ab := ab) (col := col) (dd := dd) (k0 := k0) (k1 := k1) (k2 := k2) (k3 := k3) (k5 := k5) (newId := "ValueError.__new__") PySem.F.excBase_ValueError (by decide +kernel) PySem.F.excBase_ValueError (oI := oI) (T.hasType PySem.F.excBase_ValueError.hasBase) (I.ok.hd rfl)
    (by rw [he]; exact (Bool.false_or _).trans hpl) ni (fn_cls iI lI) (ld_glob I hg hm ⟨rfl, ?_⟩ hdb)
  have go := ha cpos pins s σ H _ I h
  rw [he] at go ⊢
  refine Calls.evalArgs_plain (thn go fun us s1 ⟨vs, H1, I1, r, hl, q⟩ => ?_)
  refine ⟨rfl, by rw [← r.length]; exact hl, I1.bk _ _ oC, oN.keeps I1.bk, I1.bk _ _ oF, T.keeps I1.bk, fun h' e mk => ?_⟩
  obtain ⟨t, y, y2, y3⟩ := mk.there
  have hn := hok_none I1.hok mk.new
  have hq := q e hn
  have I2 := inv_new (t' := s1.toks) (o := .ext (ExN C e)) I1 mk.keeps mk.new ⟨⟨_, t, y, rfl, rfl⟩, ⟨_, y⟩, fun h1 h2 ⟨f1, t1, z1, z2, z3⟩ hk => ⟨f1, t1, hk _ z1, z2, z3⟩⟩
  have r2 : Vals (V.ref e :: (vs ++ [])) (Value.ref e :: (us ++ [])) := .cons rfl (r.append .nil)
  have hlen : (Value.ref e :: us ++ []).length = ps.length := by
    have z := r2.length
    rw [FI.len _ _ _ _ hq] at z
    exact z.symm
  have old : s0.heap.get? e = none := by
    cases z : s0.heap.get? e with
    | none => rfl
    | some o =>
      obtain ⟨o', y'⟩ := I1.base.there e o z (fun y => nomatch y)
      rw [mk.new] at y'
      cases y'
  have bi := bI { heap := h', gens := s1.gens, drawn := s1.drawn, toks := s1.toks, os := s1.os } (Value.ref e :: us) I2.kIn hlen
  rw [List.cons_append] at bi
  refine wpAny_call (codeAny_mono (FI.run _ (cxOf (CXe P w) P w K mg base N qual scope f cd A outer s0 H0 E).stack _ _ ⟨Value.ref e :: us, []⟩ (Value.ref e :: (us ++ [])) _ _ E0 (hr.make C us []) (I2.env0.make C us []) bi r2 hq) fun r s' hq' => ?_)
  cases r with
  | error e => exact hq'.elim
  | ok fl =>
    cases fl with
    | ret u =>
      obtain ⟨v, H', I3, rv, ev, p, hE, q3⟩ := I2.after hq'
      subst ev
      obtain ⟨⟨fs, a0, g1, g2, g3⟩, _, _⟩ := (show ObjOk _ _ H' s'.heap e (.ext (ExD C e p)) from I3.hok e _ hE)
      refine ⟨rv, _, I3.kIn _ _ lk, g1, rfl, ⟨fs, rfl, g3⟩, ?_⟩
      exact xe_of (hd := none) (a0 := a0) (inv_rem I3 hE) ⟨_, _, g1, rfl, rfl, rfl, g2, g3⟩ old (fun T z => nomatch z) rem_self (fun T z => nomatch z) q3
    | next => exact False.elim hq'
    | brk => exact False.elim hq'
    | cont => exact False.elim hq'
end L9
namespace L9
open PySem PySem.Spec PySem.W PyProof.Rows L2 L3 L4
section
variable {prog : Program} {w : World} {A : Around} {E : Value → Shared → Prop} {h : Heap} {g : Array GenState} {d : Drawn} {t : Nat} {os : OsState} {a C : Addr} {o : Obj} {K : PySem.W.Frag} {od : Option Obj} {name : Str} {v : Value}
    {n1 q1 : Str} {N1 : Addr} {b1 m1 : List Value} {d1 : Bool} {s1 : List Str} {u1 : List Value} {a1 : Bool} {c1 : Option Bool} {x1 : Option Addr} {i0 i1 i2 i3 i5 : Option Value} {id1 : String}
theorem efld_entry {tk : Tok} {Q : Fin → Shared → Prop} (X : K.In h) (I : PySem.W.InstAt h a o C od) (hf : findObj K C od name = some (.value v))
    (k : Q (.done (.ret v)) ⟨h, g, d, t, os⟩) : wpAny (model prog w) A (Builtin.«object.__getattribute__» ⟨[.ref a, .str name tk], []⟩) Q E ⟨h, g, d, t, os⟩ := by
  have L0 := I.type (M := model prog w)
  have L1 := looks_find (M := model prog w) X I hf
  refine wpAny_bind (wpAny_pure (wpAny_bind (wpAny_pure (wpAny_bind (L0.at (wpAny_bind (L1.at ?_)))))))
  exact wpAny_pure k
theorem efld_attr {expr : Bool} {Q : Value → Shared → Prop} (X : K.In h) (I : PySem.W.InstAt h a o C od) (hC : h.get? C = some (excClassObj n1 q1 C N1 b1 m1 d1 s1 u1 a1 c1 x1 i0 i1 i2 i3 i5 id1)) (hb : m1.contains (.type "BaseException") = true)
    (l1 : findIn K (.ref C) "__getattribute__" = some (some (.builtin "BaseException.__getattribute__"))) (l2 : findIn K (.ref C) "__getattr__" = some none) (hf : findObj K C od name = some (.value v)) (hh : handedIn v = true)
    (k : Q v ⟨h, g, d, t + 1, os⟩) : wpAny (model prog w) A (getAttr (.ref a) name expr) Q E ⟨h, g, d, t, os⟩ := by
  have f3 := PySem.F.attrBase_ValueError.ga.bind (.ref a)
  have z2 : (Value.builtin "BaseException.__getattribute__" == Value.builtin "object.__getattribute__") = false := by decide +kernel
  have z1 : (onTheHeap (Value.ref C) && Value.builtin "BaseException.__getattribute__" == Value.builtin "object.__getattribute__") = false := by rw [z2]; rfl
  have L0 := I.type (M := model prog w)
  have L1 := looks_findIn (M := model prog w) X l1
  have L2 := looks_findIn (M := model prog w) X l2
  unfold getAttr getAttrBy
  repeat (any_goals (first | assumption | with_reducible refine L0.at ?_ | with_reducible refine L1.at ?_ | with_reducible refine L2.at ?_ | wp_step))
  rw [show (expr && onTheHeap (Value.builtin "BaseException.__getattribute__")) = false from by cases expr <;> rfl, if_neg Bool.false_ne_true]
  unfold boundAndCalled
  repeat (any_goals (first | assumption | wp_step))
  refine codeAny_call_builtin PySem.F.attrBase_ValueError.ga.plain F.entry_bexc_ga (ecls_check hC hb I.at_ I.cls (efld_entry X I hf ?_))
  have hv := handedOut_of hh
  show wpAny _ _ (handedOut v) _ _ _
  rw [hv]
  exact wpAny_pure k
end
noncomputable def tXFld (K : PySem.W.Frag) (ta : TE) (f : Str) : TE := fun σ H Q => ta σ H fun x H1 => ∃ e ob C m p fs v, x = .ref e ∧ H1 e = some (.frz ob (.own e)) ∧ ob.cls = .ref C ∧ ob.dict = some p ∧ notCls ob = true ∧ ExLook K C m ∧ hasDictIn K C = true ∧ findIn K (.ref C) f = some none ∧
  H1 p = some (.xd fs) ∧ fs.lookup f = some v ∧ Q v H1
theorem pe_xfld {X : Cx} {o : Expr} {f : Str} {ta : TE} {pos : Pos} (he : PE X o ta) (hb : attributeBase o f X.env (eval o X.env) = eval o X.env) : PE X (.Attribute o f pos) (tXFld X.K ta f) := by
  intro pins s σ H Q I h
  refine attr_of hb (thn (he pins s σ H _ I h) fun u s1 ⟨x, H1, I1, rx, e, ob, C, m, p, fs, v, ex, ea, hc, hd, hn, L, hh, ha, hp, l, q⟩ => ?_)
  subst ex
  obtain rfl : u = Value.ref e := rx
  have z : s1.heap.get? e = some ob := (I1.hok e _ ea).1
  obtain ⟨mA, ns, rel⟩ := (show ObjOk X.prog X.w H1 s1.heap p (.xd fs) from I1.hok p _ hp)
  obtain ⟨u', hu, ru⟩ := RelO.some_of (v := v) (o := mA f) (by rw [← l]; exact rel f)
  obtain ⟨od, ho, hl⟩ := lookIn_ns ns
  obtain ⟨_, _, _, _, _, _, _, _, _, _, _, _, _, _, _, _, kC⟩ := L.cl
  obtain ⟨hp', g, d, t, os⟩ := s1
  exact efld_attr I1.kIn (⟨z, hc, hn, by rw [hd]; exact ho⟩ : PySem.W.InstAt hp' e ob C (some od)) (I1.kIn _ _ kC) L.be L.ga L.gt (findObj_own hh ha rfl (by rw [hl, hu])) (handed_of ru) ⟨v, H1, I1.tok _, ru, q⟩
noncomputable def spInitX (C : Addr) (f : Str) : Sp := fun vs H Q _ => ∃ e v, vs = [.ref e, v] ∧ FsV v ∧ H e = some (.ext (ExN C e)) ∧ ∀ p, H p = none → p ≠ e → Q .non (upd (upd H e (.ext (ExD C e p))) p (.xd [(f, v)]))
noncomputable def fsD : D → Bool
  | .none => true
  | .int i => decide (i.natAbs.log2 < 1920)
  | _ => false
noncomputable def sRaiseF (c f : Str) (fe : FE) : FS := fun ρ => (fe ρ).bind fun a => (Res.ofO (rdD a.2 a.1)).bind fun d => if fsD d = true then .er ⟨c, [(f, d)]⟩ else .bad
theorem so_raiseF {K : PySem.W.Frag} {E : XK} {c f : Str} {C : Addr} {te : TE} {fe : FE} (hc : PySem.W.nsIn K mainGlobals c = some (some (.ref C))) (he : EO K E te fe) : SO K E (tRaiseI C (spInitX C f) E (tCons te tNil)) (sRaiseF c f fe) := by
  intro B H0 O σ H ρ D R w
  refine he B H0 O σ H ρ _ R (w.bind.imp fun a w1 O1 v H1 e1 R1 p1 => ?_)
  obtain ⟨d, qd, w1⟩ := w1.ofO
  have dx := rd_ok R1 p1 qd
  by_cases hf : fsD d = true
  · rw [if_pos hf] at w1
    have key : FsV v ∧ ∀ (O' : Own) (H' : Hp), DV O' K H' v d := by
      cases d with
      | none => cases dx; exact ⟨.inl rfl, fun _ _ => .non⟩
      | int i => cases dx; exact ⟨.inr ⟨i, rfl, of_decide_eq_true hf⟩, fun _ _ => .int i⟩
      | _ => cases hf
    refine ⟨by show 1 ≤ sizeLine; decide, fun e hn => ⟨e, v, rfl, key.1, upd_same, fun p hp hpe => ⟨rfl, p, ?_, ?_⟩⟩⟩
    · rw [upd_ne (Ne.symm hpe), upd_same]
    · have hp1 : H1 p = none := by rw [upd_ne hpe] at hp; exact hp
      refine w1 (.ref C) (some p) _ (fun b o z => ?_) ⟨⟨C, rfl, hc⟩, [(f, v)], fun p' q => ?_, fun f' d' l => ⟨(fun z => nomatch z), ?_⟩⟩
      · have z1 := R1.same b o z
        have n1 : b ≠ e := fun y => by rw [y, hn] at z1; cases z1
        have n2 : b ≠ p := fun y => by rw [y, hp1] at z1; cases z1
        rw [rem_ne n1, upd_ne n2, upd_ne n1, upd_ne n1]
        exact z1
      · cases q
        rw [rem_ne hpe, upd_same]
      · have l' : (match f' == f with | true => some d | false => List.lookup f' []) = some d' := l
        cases hb : f' == f with
        | true =>
          rw [hb] at l'
          cases l'
          refine ⟨v, ?_, key.2 _ _⟩
          show (match f' == f with | true => some v | false => List.lookup f' []) = some v
          rw [hb]
        | false => rw [hb] at l'; cases l'
  · rw [if_neg hf] at w1
    exact w1.elim
end L9
namespace L3
open PySem PySem.Spec PyProof.Rows L2
mutual
noncomputable def noL : PyData → Bool
  | .tuple ds => noLs ds
  | .int _ => true
  | .str _ => true
  | .bool _ => true
  | .none => true
  | _ => false
noncomputable def noLs : List PyData → Bool
  | [] => true
  | d :: r => noL d && noLs r
end
section
variable {K : PySem.W.Frag} {E : XK} {B : Own} {H0 : Hp} {O B' : Own} {σ : L2.St} {H H' : Hp} {ρ : PEnv}
theorem sqT_lst {a : Addr} {xs ys : List V} (h : SqT K H a xs) (l : H a = some (.lst ys)) : SqT K (fun _ => none) a xs := by
  rcases h with (h | ⟨o, h⟩) | h
  · rw [l] at h; cases h
  · rw [l] at h; cases h
  · exact .inr h
mutual
theorem dv_lift (hO : ∀ b, O b → ¬ B' b → ∃ ys, H b = some (.lst ys)) : ∀ {v : V} {d : D}, DV B' K H v d → noL d = true → DV O K H v d
  | _, _, .non, _ => .non
  | _, _, .bl b, _ => .bl b
  | _, _, .int i, _ => .int i
  | _, _, .str x, _ => .str x
  | _, _, .tup (a := a) h hs, e => .tup ⟨h.1, fun z => by
      by_cases y : B' a
      · exact h.2 y
      · obtain ⟨ys, q⟩ := hO a z y
        exact sqT_lst h.1 q⟩ (dvs_lift hO hs e)
  | _, _, .lst h hs, e => by cases e
theorem dvs_lift (hO : ∀ b, O b → ¬ B' b → ∃ ys, H b = some (.lst ys)) : ∀ {vs : List V} {ds : List D}, DVs B' K H vs ds → noLs ds = true → DVs O K H vs ds
  | _, _, .nil, _ => .nil
  | _, _, .cons h hs, e => by
    have e' := Bool.and_eq_true_iff.mp e
    exact .cons (dv_lift hO h e'.1) (dvs_lift hO hs e'.2)
end
end
end L3
namespace PySem
theorem rangeHas (r : Addr) (a b : Int) (t u v : Tok) (i : Int) (ti : Tok) :
    Meets (Builtin.«range.__contains__» ⟨[.ref r, .int i ti], []⟩) (fun _ R s => s.heap.get? r = some { cls := .type "range", dict := none, data := .fields #[.int a t, .int b u, .int 1 v], slots := #[] } ∧ R (.ok (.ret (.bool (Builtin.Range.rangePlace? a b 1 i).isSome))) s) :=
  .of_wp fun prog w A R s h => by
    obtain ⟨hp, g, d, tk, os⟩ := s
    obtain ⟨hl, h⟩ := h
    wp_walk
    exact ⟨_, rfl, h⟩
theorem place_one (a b i : Int) : (Builtin.Range.rangePlace? a b 1 i).isSome = decide (a ≤ i ∧ i < b) := by
  unfold Builtin.Range.rangePlace?
  simp only [show (1 : Int) > 0 by decide, if_true, Int.emod_one, beq_self_eq_true, Bool.and_true]
  by_cases h : a ≤ i ∧ i < b
  · rw [if_pos (by simp [h.1, h.2]), decide_eq_true h]; rfl
  · rw [if_neg (by simpa using h), decide_eq_false h]; rfl
section
variable {prog : Program} {w : World} {A : Around} {E : Value → Shared → Prop} {s : Shared}
theorem notIn_range {r : Addr} {a b i : Int} {t u v ti : Tok} {Q : Value → Shared → Prop} (hr : s.heap.get? r = some { cls := .type "range", data := .fields #[.int a t, .int b u, .int 1 v] }) (h : Q (.bool (!decide (a ≤ i ∧ i < b))) s) :
    wpAny (model prog w) A (compareOp .NotIn (.int i ti) (.ref r)) Q E s :=
  SeqRoads2.notIn_meets ⟨_, hr, rfl⟩ F.slot_range_contains F.entry_range_contains (F.args_range_contains_2 _ _) (rangeHas r a b t u v i ti) ⟨hr, _, rfl, by rw [place_one]; exact h⟩
end
section
variable {prog : Program} {w : World} {A : Around} {E : Value → Shared → Prop} {s : Shared}
noncomputable abbrev nSet9 (led : Bool) : Obj := { cls := .type "set", dict := none, data := .set #[] 0 (.fresh 0 0 led) }
noncomputable abbrev SetMade (prog : Program) (w : World) (s : Shared) (n : Nat) (ns : List Int) (h' : Heap) : Prop :=
  h'.SetOf (intKind prog w) s.heap.objs.size (fun k' => (PyProof.Rows.firstMet (fun i => ns.getD i 0) n).any (· == k')) (PyProof.Rows.firstMet (fun i => ns.getD i 0) n).length ∧
    (∀ b o, b < s.heap.objs.size → s.heap.get? b = some o → h'.get? b = some o)
theorem call_set_tup {t : Addr} {items : Array Value} {ns : List Int} {Q : Value → Shared → Prop}
    (hh : A.handled = none) (ht : s.heap.IsTuple t items) (hi : PyProof.Rows.IntsAre items.toList ns) (hb : items.size + 1 < scanBound)
    (h : ∀ (h' : Heap) (tk : Nat), SetMade prog w s items.size ns h' → Q (.ref s.heap.objs.size) { s with heap := h', toks := tk }) :
    wpAny (model prog w) A (call (.type "set") [.ref t]) Q E s := by
  obtain ⟨c, tl, hmro⟩ := F.called_set.mro
  have hmade := F.called_set.made
  have hsub := F.called_set.sub
  refine wpAny_call (codeAny_of_tree ?_)
  show wpAny _ _ (callAny (.type "set") _) _ _ _
  refine wpAny_pure ⟨Code.quiet_builtin _ (by decide +kernel), codeAny_builtin F.entry_type_call ?_⟩
  rw [Around.under_plain (weight_type_call_type "set" [.ref t] []) rfl]
  have h1 := F.called_set.notType
  have h2 := F.called_set.canCreate
  have hct := F.typeCall_set_1 (.ref t)
  repeat (any_goals (first | assumption | wp_step))
  refine codeAny_mono (code_set_new_1 (.ref t) (E := E) (Q₁ := fun obj s₁ => ∃ led : Bool, obj = .ref s.heap.objs.size ∧ s₁ = { s with heap := s.heap.push (nSet9 led) }) fun led => ⟨led, rfl, rfl⟩) fun r s₁ hr => ?_
  match r, hr with
  | .error e, hr => exact hr
  | .ok (.ret obj), ⟨led, e1, e2⟩ =>
    subst e1 e2
    have hS : (s.heap.push (nSet9 led)).get? s.heap.objs.size = some (nSet9 led) := Heap.get?_push_size _ rfl
    have hT : Shared.TypeIs { s with heap := s.heap.push (nSet9 led) } (.ref s.heap.objs.size) "set" := ⟨_, hS, rfl⟩
    have hli := F.called_set.init.lookup
    have hbi := F.called_set.init.bind (.ref s.heap.objs.size)
    repeat (any_goals (first | assumption | wp_step))
    refine codeAny_mono (codeAny_call_builtin (R := wants (fun r s₂ => r = .none ∧ ∃ h' tk, s₂ = { s with heap := h', toks := tk } ∧ SetMade prog w s items.size ns h') E) F.called_set.init.plain F.entry_set_init (check_set_init_1 hT ?_)) fun r₂ s₂ hr₂ => ?_
    · have ht1 : (s.heap.push (nSet9 led)).IsTuple t items := ht.push _
      have hlt : t < s.heap.objs.size := by obtain ⟨_, e, _⟩ := ht; exact Heap.lt_size e
      obtain ⟨⟨ocls, odict, odata, oslots⟩, hol, hcl, nl, hdl⟩ := id ht
      simp only at hcl hdl
      subst hcl hdl
      have hol' : (s.heap.push (nSet9 led)).get? t = some { cls := .type "tuple", dict := odict, data := .seq items nl, slots := oslots } := Heap.get?_push_of_some _ hol
      have hsls := F.sub_tuple_set
      have hslf := F.sub_tuple_frozenset
      have hne : (Value.type "tuple" == Value.type "dict") = false := by decide
      unfold Builtin.«set.__init__» noKeywords Builtin.Frozenset.updateFrom
      generalize hPI : pyIter = PI
      wp_walk
      subst hPI
      refine wpAny_pyIter_tuple ht1 ?_
      refine wpAny_bind (wpAny_runValue ?_)
      have hh3 : A.in1.in1.in1.handled = none := by simp [hh]
      have hneI : t ≠ (s.heap.push (nSet9 led)).objs.size := by rw [Heap.size_push]; exact Nat.ne_of_lt (Nat.lt_succ_of_lt hlt)
      have hSf : s.heap.objs.size ∉ [(s.heap.push (nSet9 led)).objs.size, t] := by
        rw [Heap.size_push]
        simp only [List.mem_cons, List.mem_singleton, List.not_mem_nil, or_false, not_or]
        exact ⟨Nat.ne_of_lt (Nat.lt_succ_self _), Nat.ne_of_gt hlt⟩
      have hval : ∀ (i : Nat) (v : Value), items[i]? = some v → ∃ t, v = .int ((fun i => ns.getD i 0) i) t := fun i v hv => PyProof.Rows.IntsAre.int_at hi i v (by rw [Array.getElem?_toList]; exact hv)
      refine PyProof.Rows.codeAny_set_update_loopS ((Walks.tuple hh3 _ t hneI items).toS) s.heap.objs.size hSf (fun i => ns.getD i 0) hval hb (items.size - 0) 0 _ (by omega) (Nat.zero_le _)
        ⟨⟨_, Heap.get?_push_size _ rfl, rfl, rfl⟩, ht1.push _⟩ ?hS0 ?hR
      case hS0 =>
        exact PyProof.Rows.SetOf_congr ((PyProof.Rows.setObjOf_fresh (knd := intKind prog w) led).setOf (Heap.get?_push_of_some _ hS) (by unfold scanBound; omega)) (fun _ => rfl) rfl
      case hR =>
        intro s' hm hS'
        obtain ⟨h', g', d', tk', os'⟩ := s'
        have eg : g' = s.gens := hm.gens
        have ed : d' = s.drawn := hm.drawn
        have eo : os' = s.os := hm.os
        subst eg ed eo
        show wpAny _ _ _ _ _ _
        refine wpAny_pure ?_
        show wpAny _ _ (ret Value.none) _ _ _
        refine wpAny_pure ⟨rfl, h', tk', rfl, hS', fun b o hb e => ?_⟩
        exact hm.heap b o (by simp only [List.mem_cons, List.mem_singleton, List.not_mem_nil, or_false, not_or]; exact ⟨Nat.ne_of_lt hb, by rw [Heap.size_push]; exact Nat.ne_of_lt (Nat.lt_succ_of_lt hb)⟩) (Heap.get?_push_of_some _ (Heap.get?_push_of_some _ e))
    · match r₂, hr₂ with
      | .error e, hr₂ => exact hr₂
      | .ok (.ret r), ⟨e1, h', tk, e2, hS'⟩ =>
        subst e1 e2
        repeat (any_goals (first | assumption | wp_step))
        exact h _ _ hS'
end
end PySem
namespace PyProof.Rows
open PySem
section
variable {prog : Program} {w : World} {A : Around} {E : Value → Shared → Prop} {s : Shared}
theorem sortedH_at {h : Heap} {a : Addr} {vs : List Value} {out : Array Value} {n : Nat} (ho : h.get? a = some (seqObj "list" vs.toArray n)) : ∃ e, (sortedHeap h a vs out).get? a = some (seqObj "list" out e) := by
  have h1 := get?_update_seq ho (fun _ => #[])
  exact ⟨_, get?_update_seq (Heap.get?_push_of_some _ (Heap.get?_push_of_some _ h1)) _⟩
theorem sortedH_old {h : Heap} {a b : Addr} {vs : List Value} {out : Array Value} {o : Obj} (hb : b ≠ a) (e : h.get? b = some o) : (sortedHeap h a vs out).get? b = some o :=
  (Heap.get?_update_other _ _ (Ne.symm hb)).trans (Heap.get?_push_of_some _ (Heap.get?_push_of_some _ ((Heap.get?_update_other _ _ (Ne.symm hb)).trans e)))
theorem sorted_tup {l : Addr} {vs : List Value} {ns : List Int} {Q : Value → Shared → Prop} (ht : s.heap.IsTuple l vs.toArray) (hI : IntsAre vs ns) (h64 : vs.length < 64)
    (h : ∀ (h1 h' : Heap) (out : Array Value) (e : Nat) (ms : List Int), (∀ b o, s.heap.get? b = some o → h1.get? b = some o) → h'.get? h1.objs.size = some (seqObj "list" out e) → (∀ b o, h1.get? b = some o → h'.get? b = some o) → IntsAre out.toList ms → ms.Perm ns → ms.Pairwise (· ≤ ·) → Q (.ref h1.objs.size) { s with heap := h' }) :
    wpAny (model prog w) A (call (.builtin "sorted") [.ref l]) Q E s := by
  obtain ⟨o, ho, hc, n, hd⟩ := ht
  refine Calls.call_function_entry kind_sorted plain_sorted entry_sorted (args_sorted1 _) (wpAny_bind (m := checkCount "sorted" 1 1 _) (wpAny_pure (wpAny_bind (wpAny_collect_seq l (.inr rfl) ho hc hd (fun h1 hk => wpAny_bind (wpAny_newList ?_)) (by rw [List.size_toArray, sizeLine_eq]; omega)))))
  have hL : (h1.push (seqObj "list" vs.toArray 0)).get? h1.objs.size = some (seqObj "list" vs.toArray 0) := Heap.get?_push_size _ rfl
  refine wpAny_bind (wpAny_holding (wpAny_call_entry slot_list_sort ⟨_, hL, rfl⟩ entry_list_sort (list_sort_tree hL hI h64 fun out ms a1 a2 a3 => ⟨_, rfl, wpAny_pure ⟨_, rfl, ?_⟩⟩) (args_list_sort _)))
  obtain ⟨e, he⟩ := sortedH_at (out := out) hL
  exact h h1 _ out e ms hk he (fun b o' z => sortedH_old (Nat.ne_of_lt (Heap.lt_size z)) (Heap.get?_push_of_some _ z)) a1 a2 a3
end
end PyProof.Rows
namespace L9
open PySem PySem.Spec PyProof.Rows L2 L3
noncomputable def rRng : List V → Hp → VK → Prop := fun xs H Q => ∃ lo hi : Int, xs = [.int lo, .int hi] ∧ ∀ r, H r = none → Q (.ref r) (upd H r (.rng lo hi))
theorem call_rng2 {X : Cx} : CallR X (.type "range") rRng := by
  intro pins s σ H xs us Q I r h
  obtain ⟨lo, hi, rfl, q⟩ := h
  obtain ⟨a, b, rfl, ⟨t, rfl⟩, ⟨u, rfl⟩⟩ := vals2 r
  refine call_range_2 ⟨.ref s.heap.objs.size, _, I.laid (t' := s.toks + 1) (fun b o e => Heap.get?_push_of_some _ e) (Nat.le_refl _) (show ObjOk X.prog X.w _ _ _ (.rng lo hi) from ⟨_, _, _, Heap.get?_push_size _ rfl⟩), rfl, q _ (I.hok.fresh (Nat.le_refl _))⟩
noncomputable def rInR (neg : Bool) : R2 := fun x y H Q => ∃ (i lo hi : Int) (r : Addr), x = .int i ∧ y = .ref r ∧ H r = some (.rng lo hi) ∧ Q (.bl (if neg then !decide (lo ≤ i ∧ i < hi) else decide (lo ≤ i ∧ i < hi))) H
theorem op_ninR {X : Cx} : OpR X (compareOp .NotIn) (rInR true) := by
  intro pins s σ H x y v u Q I rx ry h
  obtain ⟨i, lo, hi, r, rfl, rfl, hr, q⟩ := h
  obtain ⟨t, rfl⟩ := rx
  cases ry
  obtain ⟨_, _, _, e⟩ := I.hok r _ hr
  exact notIn_range e ⟨.bl _, H, I, rfl, q⟩
noncomputable def inRD (neg : Bool) (d : D) (es : List D) : Option RV := match d, es with
  | .int i, [.int lo, .int hi] => some (.fz (.bool (if neg then !decide (lo ≤ i ∧ i < hi) else decide (lo ≤ i ∧ i < hi))))
  | _, _ => none
theorem inRD_some {neg : Bool} {d : D} {es : List D} {rv : RV} (h : inRD neg d es = some rv) : ∃ i lo hi : Int, d = .int i ∧ es = [.int lo, .int hi] ∧ rv = .fz (.bool (if neg then !decide (lo ≤ i ∧ i < hi) else decide (lo ≤ i ∧ i < hi))) := by
  unfold inRD at h
  split at h
  · cases h
    exact ⟨_, _, _, rfl, rfl, rfl⟩
  · cases h
noncomputable def pInR (neg : Bool) (fa : FE) (fl : FA) : FE := fun ρ => (fa ρ).bind fun a => (fl a.2).bind fun b => (Res.ofO (rdD b.2 (settle a.1))).bind fun d => (Res.ofO (rdDs b.2 b.1)).bind fun es => (Res.ofO (inRD neg d es)).bind fun rv => .ok (rv.pv, b.2)
section
variable {K : PySem.W.Frag} {E : XK}
theorem eo_inR {neg : Bool} {ta : TE} {tl : TA} {fa : FE} {fl : FA} (ha : EO K E ta fa) (hl : AO K E tl fl) : EO K E (tOp (rInR neg) ta (tCB rRng tl)) (pInR neg fa fl) := by
  intro B H0 O σ H ρ Q R w
  refine ha B H0 O σ H ρ _ R (w.bind.imp fun a w1 O1 x H1 e1 R1 p1 => ?_)
  obtain ⟨O2, e2, R2, p2⟩ := settle_ok R1 p1
  refine hl B H0 O2 σ H1 a.2 _ R2 (w1.bind.imp fun b w2 O3 ys H3 e3 R3 p3 => ?_)
  have p2' := p2.keep (settled a.1) e3 (ρ' := b.2)
  obtain ⟨d, qd, w2⟩ := w2.ofO
  obtain ⟨es, qe, w2⟩ := w2.ofO
  obtain ⟨rv, qf, w2⟩ := w2.ofO
  have hd := rd_ok R3 p2' qd
  have he := rds_ok R3 p3 qe
  obtain ⟨i, lo, hi, rfl, rfl, rfl⟩ := inRD_some qf
  cases hd
  cases he with
  | cons g1 g2 =>
    cases g2 with
    | cons g2 g3 =>
      cases g3
      cases g1
      cases g2
      refine ⟨lo, hi, rfl, fun r hr => ⟨i, lo, hi, r, rfl, rfl, upd_same, ?_⟩⟩
      exact w2 O3 _ _ (e1.trans (e2.trans (e3.trans (Ev.grow (same_upd hr _))))) (R3.grow (same_upd hr _)) (.bl _)
noncomputable def ddI (ns : List Int) : Nat := (ns.foldl step_dedup []).length
theorem firstMet_all (ns : List Int) : firstMet (fun i => ns.getD i 0) ns.length = ns.foldl step_dedup [] := by
  unfold firstMet
  congr 1
  refine List.ext_getElem (by simp) fun i h1 h2 => ?_
  simp at h1
  simp [h1]
noncomputable def rSetT (K : PySem.W.Frag) : List V → Hp → VK → Prop := fun xs H Q => ∃ (a : Addr) (ns : List Int), xs = [.ref a] ∧ SqT K H a (ns.map V.int) ∧ ns.length ≤ 1000 ∧ ∀ S p, H p = none → Q (.ref p) (upd H p (.set S (ddI ns)))
theorem call_setT {X : Cx} (hc : X.calm = true) : CallR X (.type "set") (rSetT X.K) := by
  intro pins s σ H xs us Q I r h
  obtain ⟨a, ns, rfl, hx, hn, q⟩ := h
  obtain ⟨u, rfl, r1⟩ := vals1 r
  cases r1
  obtain ⟨its, r2, ht, _⟩ := I.tuple hx
  have hl : its.length = ns.length := by rw [← r2.length, List.length_map]
  refine call_set_tup (I.ok.hd hc) ht (by simpa using intsAre_of r2) (by rw [List.size_toArray, hl]; unfold scanBound; omega) fun h' tk hS => ?_
  rw [List.size_toArray, hl] at hS
  obtain ⟨hS, hk⟩ := hS
  rw [firstMet_all] at hS
  exact ⟨.ref s.heap.objs.size, _, I.laid (t' := tk) (fun b o e => hk b o (Heap.lt_size e) e) (Nat.le_refl _) (show ObjOk X.prog X.w _ _ _ (.set _ _) from hS), rfl, q _ _ (I.hok.fresh (Nat.le_refl _))⟩
noncomputable def rLenSet : List V → Hp → VK → Prop := fun xs H Q => ∃ (p : Addr) (S : Int → Bool) (n : Nat), xs = [.ref p] ∧ H p = some (.set S n) ∧ Q (.int n) H
theorem call_lenSet {X : Cx} : CallR X (.builtin "len") rLenSet := by
  intro pins s σ H xs us Q I r h
  obtain ⟨p, S, n, rfl, hp, q⟩ := h
  obtain ⟨u, rfl, r1⟩ := vals1 r
  cases r1
  obtain ⟨o, es, ep, t, h1, h2, h3, _, _, h4, h5, h6⟩ := I.hok p _ hp
  subst h6
  exact call_len_set h1 h2 h3 h5 (by unfold scanBound at h4; omega) ⟨.int _, H, I.tok _, ⟨_, rfl⟩, q⟩
noncomputable def setLenD : List D → Option RV
  | [.tuple ds] => (match asIs ds with
    | some ns => if ns.length ≤ 1000 then some (.fz (.int (ddI ns))) else none
    | none => none)
  | _ => none
noncomputable def pLenSet (fl : FA) : FE := fun ρ => (fl ρ).bind fun a => (Res.ofO (rdDs a.2 a.1)).bind fun es => (Res.ofO (setLenD es)).bind fun rv => .ok (rv.pv, a.2)
theorem eo_lenSet {tl : TA} {fl : FA} (hl : AO K E tl fl) : EO K E (tCB rLenSet (tCons (tCB (rSetT K) tl) tNil)) (pLenSet fl) := by
  intro B H0 O σ H ρ Q R w
  refine hl B H0 O σ H ρ _ R (w.bind.imp fun a w1 O1 ys H1 e1 R1 p1 => ?_)
  obtain ⟨es, qe, w1⟩ := w1.ofO
  obtain ⟨rv, qf, w1⟩ := w1.ofO
  have he := rds_ok R1 p1 qe
  unfold setLenD at qf
  split at qf
  · split at qf
    · rename_i ns hs
      split at qf
      · rename_i hn
        cases qf
        cases he with
        | cons g1 g2 =>
          cases g2
          obtain ⟨b, vs, rfl, k1, k2⟩ := DXt g1
          rw [asIs_ok k2 hs] at k1
          refine ⟨b, ns, rfl, k1.1, hn, fun S p hp => ⟨p, S, ddI ns, rfl, upd_same, ?_⟩⟩
          exact w1 O1 _ _ (e1.trans (Ev.grow (same_upd hp _))) (R1.grow (same_upd hp _)) (.int _)
      · cases qf
    · cases qf
  · cases qf
theorem ev_inR {neg : Bool} {fa : FE} {fl : FA} {ρ ρ1 ρ2 : PEnv} {p : PV} {ps : List PV} {d : D} {es : List D} {rv : RV} (ha : fa ρ = .ok (p, ρ1)) (hl : fl ρ1 = .ok (ps, ρ2)) (hd : rdD ρ2 (settle p) = some d) (he : rdDs ρ2 ps = some es) (hv : inRD neg d es = some rv) : pInR neg fa fl ρ = .ok (rv.pv, ρ2) := by
  unfold pInR
  rw [ha, Res.bind_ok]
  dsimp only
  rw [hl, Res.bind_ok, hd]
  show ((Res.ofO (rdDs ρ2 ps)).bind _) = _
  rw [he]
  show ((Res.ofO (inRD neg d es)).bind _) = _
  rw [hv]
  rfl
theorem ev_lenSet {fl : FA} {ρ ρ1 : PEnv} {ps : List PV} {es : List D} {rv : RV} (hl : fl ρ = .ok (ps, ρ1)) (he : rdDs ρ1 ps = some es) (hv : setLenD es = some rv) : pLenSet fl ρ = .ok (rv.pv, ρ1) := by
  unfold pLenSet
  rw [hl, Res.bind_ok]
  dsimp only
  rw [he]
  show ((Res.ofO (setLenD es)).bind _) = _
  rw [hv]
  rfl
theorem call_sortedT {X : Cx} : CallR X (.builtin "sorted") (fun xs H Q => ∃ (p : Addr) (ns : List Int), xs = [.ref p] ∧ SqT X.K H p (ns.map V.int) ∧ ns.length < 64 ∧ ∀ (l : Addr) (ms : List Int), H l = none → ms.Perm ns → ms.Pairwise (· ≤ ·) → Q (.ref l) (upd H l (.lst (ms.map V.int)))) := by
  intro pins s σ H xs us Q I r h
  obtain ⟨p, ns, rfl, hq, h64, q⟩ := h
  obtain ⟨u, rfl, ru⟩ := vals1 r
  cases ru
  obtain ⟨its, rv, pl, hz⟩ := I.tuple hq
  have hl := rv.length
  rw [List.length_map] at hl
  refine sorted_tup pl (intsAre_of rv) (by omega) fun h1 h' out e ms hk he hk2 hi hp hs => ?_
  have hlen : ms.length = ns.length := hp.length_eq
  have I1 : Inv X pins σ H { s with heap := h1 } := I.kept (t' := s.toks) hk
  refine ⟨.ref h1.objs.size, _, I1.laid (t' := s.toks) (o := .lst (ms.map V.int)) hk2 (Nat.le_refl _) ?_, rfl, q _ ms (I1.hok.fresh (Nat.le_refl _)) hp hs⟩
  refine ⟨?_, out.toList, e, vals_ints hi, he⟩
  rw [List.length_map, hlen]
  have : (64 : Nat) ≤ sizeLine := by decide
  omega
theorem call_sortedB {X : Cx} : CallR X (.builtin "sorted") (fun xs H Q => (∃ (p : Addr) (ns : List Int), xs = [.ref p] ∧ SqL X.K H p (ns.map V.int) ∧ ns.length < 64 ∧ ∀ (l : Addr) (ms : List Int), H l = none → ms.Perm ns → ms.Pairwise (· ≤ ·) → Q (.ref l) (upd H l (.lst (ms.map V.int)))) ∨
    (∃ (p : Addr) (ns : List Int), xs = [.ref p] ∧ SqT X.K H p (ns.map V.int) ∧ ns.length < 64 ∧ ∀ (l : Addr) (ms : List Int), H l = none → ms.Perm ns → ms.Pairwise (· ≤ ·) → Q (.ref l) (upd H l (.lst (ms.map V.int))))) := L2.CallR.or call_sorted call_sortedT
noncomputable def sortedE : List D → Option RV
  | [.tuple ds] => (match asIs ds with
    | some ns => if ns.length < 64 then some (.ow ((sortI ns).map .int)) else none
    | none => none)
  | ds => sortedD ds
theorem cb_sortedE : CbP K (fun xs H Q => (∃ (p : Addr) (ns : List Int), xs = [.ref p] ∧ SqL K H p (ns.map V.int) ∧ ns.length < 64 ∧ ∀ (l : Addr) (ms : List Int), H l = none → ms.Perm ns → ms.Pairwise (· ≤ ·) → Q (.ref l) (upd H l (.lst (ms.map V.int)))) ∨
    (∃ (p : Addr) (ns : List Int), xs = [.ref p] ∧ SqT K H p (ns.map V.int) ∧ ns.length < 64 ∧ ∀ (l : Addr) (ms : List Int), H l = none → ms.Perm ns → ms.Pairwise (· ≤ ·) → Q (.ref l) (upd H l (.lst (ms.map V.int))))) sortedE := by
  intro O H xs ds rv Q n hp e q
  unfold sortedE at e
  split at e
  · split at e
    · rename_i ns hs
      split at e
      · rename_i hn
        cases e
        cases hp with
        | cons h1 h2 =>
          cases h2
          obtain ⟨a, vs, rfl, g1, g2⟩ := DXt h1
          rw [asIs_ok g2 hs] at g1
          refine .inr ⟨a, ns, rfl, g1.1, hn, fun l ms hl hpm hst => ?_⟩
          have e2 : ms = sortI ns := sorted_eq (hpm.trans (sortI_perm ns).symm) hst (sortI_sorted ns)
          subst e2
          exact q.new (dvs_ints _) l hl
      · cases e
    · cases e
  · exact .inl (cb_sorted O H xs ds rv Q n hp e q)
noncomputable def rMulS : R2 := fun x y H Q => ∃ (z : Str) (n : Int), x = .str z ∧ y = .int n ∧ z.length ≤ 1000 ∧ 0 ≤ n ∧ n ≤ 1000 ∧ Q (.str (Txt.mul z n)) H
theorem op_mulS {X : Cx} : OpR X (binaryOp .Mult) rMulS := by
  intro pins s σ H x y v u Q I rx ry h
  obtain ⟨z, n, rfl, rfl, hz, h0, h1, q⟩ := h
  obtain ⟨t, rfl⟩ := rx
  obtain ⟨t', rfl⟩ := ry
  refine SB.mul ⟨?_, fun _ _ => ?_, fun _ _ => ?_⟩ fun t' k => ⟨.str _, H, I.tok k, ⟨_, rfl⟩, q⟩
  · simp; omega
  · have : (1000 : Int) ≤ (2 ^ 63 - 1) / n := Int.le_ediv_of_mul_le (by omega) (by omega)
    omega
  · have : z.length * n.toNat ≤ 1000 * 1000 := Nat.mul_le_mul hz (by omega)
    unfold Builtin.Str.tooLong
    have h2 := sizeLine_eq
    simp
    omega
noncomputable def mulS : D → D → Option RV
  | .str z, .int n => if z.length ≤ 1000 ∧ 0 ≤ n ∧ n ≤ 1000 then some (.fz (.str (Txt.mul z n))) else none
  | _, _ => none
theorem opp_mulS : OpP K rMulS mulS := by
  intro O H x y dx dy rv Q n hx hy e q
  unfold mulS at e
  split at e
  · split at e
    · rename_i hc
      cases e
      cases hx; cases hy
      exact ⟨_, _, rfl, rfl, hc.1, hc.2.1, hc.2.2, q.at (.str _)⟩
    · cases e
  · cases e
theorem b_set : bootBuiltins "set" = some (.type "set") := by decide +kernel
theorem b_range : bootBuiltins "range" = some (.type "range") := by decide +kernel
end
end L9
local macro_rules | `(tactic| walk_at "px") => `(tactic| simp only [L3.runF, L3.sSeq, L3.sIf, L3.sAsg, L3.sRet, L3.sRetN, L3.sDrop, L3.sNext, L3.sFor, L3.sBreak, L3.sCont, L3.ret_fz, L3.ret_ow, L3.ret_pl, L3.retS_fz, L3.retS_ow, L3.pOp, L3.pUn, L3.var_eq, L3.var_fz, L3.var_ow, L3.pC, L3.pCB, L3.pCal, L3.pTup, L3.pLst, L3.pBool, L3.pAnd, L3.pOr, L3.pNot, L3.pIf, L3.pSl, L3.oSome, L3.oNone,
  L3.qAnd, L3.qOr, L3.qNot, L3.qTrue, L3.aNil, L3.aCons, L3.iRng, L3.iSeq, L3.iEnum, L3.gN_fz, L3.gN_ow, L3.gN_pl, L3.gT, L3.gsN, L3.gsC, L3.gIx, L3.pApp, L3.pPop, L3.pComp, L3.captL_nil, L3.captL_cons, L3.pIsi, L3.tyOf,
  L3.rdD_fz, L3.rdD_ow, L3.rdD_pl, L3.rdS_fz, L3.rdS_ow, L3.toD_fz, L3.toD_ow, L3.toD_pl, L3.toS_fz, L3.toS_ow, L3.rdDs_nil, L3.rdDs_fz, L3.rdDs_pl, L3.toDs_nil, L3.toDs_fz, L3.toDs_pl, L3.settle_fz, L3.settle_ow, L3.settle_pl, L3.asB_bool, L3.asI_int, L3.asT_tup, L3.asSeq_tup, L3.asSeq_lst, L3.asOw_some, L3.noEr_okk, L3.pv_fz, L3.pv_ow, L3.Res.bind_ok, L3.ofO_some, L3.forget, L3.keepF_fz, L3.keepF_ow, L3.keepF_none, L3.compT, L3.obind_some,
  L3.lenD_tup, L3.lenD_lst, L3.tupD, L3.lstD, L3.negD, L3.tr_ltt, L3.tr_le, L3.tr_gt, L3.tr_ge, L3.tr_add, L3.tr_sub, L3.eqD_int, L3.neD_int, L3.eqD_bool, L3.neD_bool,
  List.map_cons, List.map_nil, List.cons_append, List.nil_append, List.append_nil, List.replicate_succ, List.replicate_zero, List.length_cons, List.length_nil, List.getElem?_cons_zero, List.getElem?_cons_succ, List.set_cons_zero, List.set_cons_succ, Nat.reduceSub, Nat.reduceAdd, Nat.reduceLeDiff, Nat.reduceLT, Nat.zero_add, Nat.sub_self, Nat.zero_le, reduceIte, Option.map_some, Option.map_none, Bool.not_true, Bool.not_false, Bool.false_eq_true, if_true, if_false, ite_true, ite_false])
local macro_rules | `(tactic| walk_at "nm") => `(tactic| first | ((simp only [List.set_cons_zero, List.set_cons_succ]); rfl) | rfl)
local macro_rules | `(tactic| walk_at "evf") => `(tactic| first | with_reducible assumption | with_reducible exact L3.tr_add _ _ | with_reducible exact L3.tr_sub _ _ | with_reducible exact L3.tr_ltt _ _ | with_reducible exact L3.tr_le _ _ | with_reducible exact L3.tr_gt _ _ | with_reducible exact L3.tr_ge _ _ | with_reducible exact L3.eqD_nd _ _ | with_reducible exact L3.neD_nd _ _ | with_reducible exact L3.eqD_int _ _ | with_reducible exact L3.neD_int _ _ | with_reducible exact L3.eqD_bool _ _ | with_reducible exact L3.neD_bool _ _ | with_reducible exact L3.eqD_tup _ _ | with_reducible exact L3.neD_tup _ _ | with_reducible exact L3.eqD_lst _ _ | with_reducible exact L3.neD_lst _ _ | with_reducible exact L3.inD_nds _ _ | with_reducible exact L3.ninD_nds _ _ | with_reducible exact L3.inD_ndt _ _ | with_reducible exact L3.ninD_ndt _ _ | with_reducible exact L3.bandD_nd _ _ | with_reducible exact L3.borD_nd _ _ | with_reducible exact L3.shr_nd _ _ | with_reducible exact L3.ixt0 | with_reducible exact L3.ixt1 | with_reducible exact L3.ixt2 | with_reducible exact L3.ixl0 | with_reducible exact L3.ixl1 | with_reducible exact L3.pow18 | with_reducible exact L3.lenD_tup _ | with_reducible exact L3.lenD_lst _ | (with_reducible rfl))
local macro_rules | `(tactic| walk_at "ev") => `(tactic| first
  | with_reducible exact L3.ev_c
  | ((with_reducible apply L3.ev_var); rfl)
  | ((with_reducible apply L3.ev_own); rfl)
  | with_reducible exact L3.ev_nil
  | with_reducible exact L3.ev_onone
  | ((with_reducible apply L3.ev_op); (· walk_at "ev"); (· walk_at "ev"); (· rfl); (· rfl); (· walk_at "evf"))
  | ((with_reducible apply L3.ev_un); (· walk_at "ev"); (· rfl); (· rfl))
  | ((with_reducible apply L3.ev_cons); (· walk_at "ev"); (· walk_at "ev"))
  | ((with_reducible apply L3.ev_bool); (· walk_at "ev"); (· rfl))
  | ((with_reducible apply L3.ev_cb); (· walk_at "ev"); (· rfl); (· first | walk_at "evf" | rfl))
  | ((with_reducible apply L3.ev_cal); (· walk_at "ev"); (· rfl); (· rfl); (· with_reducible assumption))
  | ((with_reducible apply L3.ev_tup); (· walk_at "ev"); (· rfl); (· exact Nat.le_of_ble_eq_true rfl))
  | ((with_reducible apply L3.ev_lst); (· walk_at "ev"); (· rfl); (· exact Nat.le_of_ble_eq_true rfl))
  | ((with_reducible apply L3.ev_isi); (· walk_at "ev"); (· rfl); (· rfl))
  | ((with_reducible apply L3.ev_osome); (· walk_at "ev"); (· rfl))
  | ((with_reducible apply L3.ev_sl); (· walk_at "ev"); (· walk_at "ev"); (· walk_at "ev"); (· rfl); (· first | with_reducible assumption | rfl))
  | ((with_reducible apply L3.ev_qnot); (· walk_at "ev"))
  | ((with_reducible apply L3.ev_qand); (· walk_at "ev"); (· intro _; walk_at "ev"))
  | ((with_reducible apply L3.ev_qor); (· walk_at "ev"); (· intro _; walk_at "ev"))
  | ((with_reducible apply L3.ev_pnot); (· walk_at "ev"))
  | ((with_reducible apply L3.ev_pand); (· walk_at "ev"); (· intro _; walk_at "ev"))
  | ((with_reducible apply L3.ev_por); (· walk_at "ev"); (· intro _; walk_at "ev"))
  | ((with_reducible apply L3.ev_irng); (· walk_at "ev"); (· rfl); (· first | with_reducible assumption | rfl))
  | ((with_reducible apply L3.ev_iseq); (· walk_at "ev"); (· rfl); (· rfl))
  | ((with_reducible apply L3.ev_ienum); (· walk_at "ev"); (· rfl); (· rfl))
  | ((with_reducible apply L3.ev_app); (· rfl); (· walk_at "ev"); (· rfl); (· rfl); (· first | with_reducible assumption | (simp only [List.length_nil, List.length_cons, L3.nds_len] at *; omega)); (· walk_at "nm"))
  | ((with_reducible apply L3.ev_pop); (· rfl); (· walk_at "ev"); (· rfl); (· rfl); (· with_reducible assumption); (· with_reducible assumption); (· with_reducible assumption); (· walk_at "nm"))
  | ((with_reducible apply L3.st_asg); (· walk_at "ev"); (· rfl); (· walk_at "nm"))
  | ((with_reducible apply L3.st_drop); (· walk_at "ev"))
  | ((with_reducible apply L3.st_ret); (· walk_at "ev"); (· rfl)))
local macro_rules | `(tactic| walk_at "evb") => `(tactic| first
  | ((with_reducible apply L3.ev_opb); (· walk_at "ev"); (· walk_at "ev"); (· rfl); (· rfl); (· walk_at "evf"))
  | ((with_reducible apply L3.ev_calb); (· walk_at "ev"); (· rfl); (· rfl); (· with_reducible assumption))
  | ((with_reducible apply L3.ev_cbb); (· walk_at "ev"); (· rfl); (· first | walk_at "evf" | rfl))
  | walk_at "ev")
local macro_rules | `(tactic| walk_at "ev") => `(tactic| first
  | with_reducible assumption
  | ((with_reducible apply L3.ev_pand); (· walk_at "ev"); (· intro _; walk_at "evb"))
  | ((with_reducible apply L3.ev_por); (· walk_at "ev"); (· intro _; walk_at "evb"))
  | ((with_reducible apply L3.ev_chain); (· walk_at "ev"); (· walk_at "ev"); (· walk_at "ev"); (· rfl); (· rfl); (· rfl); (· walk_at "evf"); (· intro _; walk_at "evf"))
  | ((with_reducible apply L3.ev_izip); (· walk_at "ev"); (· rfl); (· rfl); (· rfl)))
local macro_rules | `(tactic| walk_at "go") => `(tactic| first
  | ((with_reducible apply L3.gs_asg); (· walk_at "ev"); (· rfl); (· walk_at "nm"); try walk_at "go")
  | ((with_reducible apply L3.gs_drop); (· walk_at "ev"); try walk_at "go")
  | ((with_reducible apply L3.gs_seq); try walk_at "go")
  | ((with_reducible apply L3.gs_next); try walk_at "go")
  | ((with_reducible apply L3.gs_ret); (· walk_at "ev"); (· rfl))
  | ((with_reducible apply L3.gs_if); (· walk_at "ev"))
  | ((with_reducible apply L3.gl_asg); (· walk_at "ev"); (· rfl); (· walk_at "nm"))
  | ((with_reducible apply L3.go_drop); (· walk_at "ev"))
  | ((with_reducible apply L3.go_ret); (· walk_at "ev"); (· rfl))
  | ((with_reducible apply L3.go_if); (· walk_at "ev"))
  | (with_reducible apply L3.go_next))
local macro_rules | `(tactic| walk_at "evp") => `(tactic| ((apply Eq.trans); (· walk_at "ev"); (· rfl)))
namespace K61
open PySem L2 L3
noncomputable def g__law_cell : FS := (sRet (pOp ixD (pOp addD (pSl slD (pVar 0) (oSome (pVar 1)) (oSome (pOp addD (pVar 1) (pC (.int 1))))) (pLst (aCons (pC (.int 0)) aNil))) (pC (.int 0))))
noncomputable def F__law_cell : FN := runF 2 g__law_cell
noncomputable def g__law_stirred : FS := (sSeq (sAsg (pOp addD (pOp modD (pVar 0) (pC (.int 1000000007))) (pOp mulE (pC (.int 13)) (pVar 1))) (gN 2))
  (sSeq (sAsg (pOp modD (pOp addD (pOp addD (pOp mulE (pVar 2) (pOp addD (pOp addD (pVar 2) (pOp mulE (pVar 1) (pVar 1))) (pC (.int 11)))) (pOp mulE (pC (.int 40487)) (pVar 1))) (pC (.int 7))) (pC (.int 1000000033))) (gN 2))
  (sRet (pOp divD (pOp modD (pOp addD (pOp mulE (pVar 2) (pOp addD (pOp divD (pVar 2) (pC (.int 7))) (pC (.int 31)))) (pC (.int 90001))) (pC (.int 999999937))) (pC (.int 3))))))
noncomputable def F__law_stirred : FN := runF 3 g__law_stirred
noncomputable def g__law_stream : FS := (sSeq (sAsg (pLst aNil) (gN 2))
  (sSeq (sAsg (pCB max2D (aCons (pVar 0) (aCons (pOp subD (pC (.int 0)) (pVar 0)) aNil))) (gN 3))
  (sSeq (sFor (iRng rng1 (aCons (pVar 1) aNil)) (gN 4) (sSeq (sAsg (pC (.int 0)) (gN 5))
  (sSeq (sFor (iRng rng1 (aCons (pC (.int 3)) aNil)) (gN 6) (sAsg (pOp addD (pOp mulE (pVar 5) (pOp powD (pC (.int 10)) (pC (.int 8)))) (pOp modD (pCal F__law_stirred 2 (aCons (pVar 0) (aCons (pOp addD (pOp mulE (pC (.int 3)) (pVar 4)) (pVar 6)) aNil))) (pOp powD (pC (.int 10)) (pC (.int 8))))) (gN 5)))
  (sSeq (sIf (qAnd (pBool (pOp gtD (pVar 3) (pC (.int 0)))) (qOr (pBool (pOp ltD (pVar 0) (pC (.int 0)))) (pBool (pOp geD (pVar 0) (pOp powD (pC (.int 10)) (pC (.int 18))))))) (sSeq (sAsg (pOp modD (pVar 3) (pOp powD (pC (.int 10)) (pC (.int 24)))) (gN 5))
  (sAsg (pOp divD (pVar 3) (pOp powD (pC (.int 10)) (pC (.int 24)))) (gN 3))) sNext)
  (sDrop (pApp 2 (pVar 5)))))))
  (sRet (pVar 2)))))
noncomputable def F__law_stream : FN := runF 7 g__law_stream
noncomputable def g__law_name_of : FS := (sSeq (sAsg (pC (.str "")) (gN 1))
  (sSeq (sAsg (pOp addD (pC (.int 1)) (pOp modD (pVar 0) (pC (.int 8)))) (gN 2))
  (sSeq (sAsg (pOp divD (pVar 0) (pC (.int 8))) (gN 0))
  (sSeq (sFor (iRng rng1 (aCons (pVar 2) aNil)) (gN 3) (sSeq (sAsg (pOp addS (pVar 1) (pOp ixS (pC (.str "abcdefghijklmnopqrstuvwxyz")) (pOp modD (pVar 0) (pC (.int 26))))) (gN 1))
  (sAsg (pOp divD (pVar 0) (pC (.int 26))) (gN 0))))
  (sRet (pVar 1))))))
noncomputable def F__law_name_of : FN := runF 4 g__law_name_of
noncomputable def g__law_stroke_of : FS := (sSeq (sAsg (pOp addD (pC (.int 1)) (pVar 0)) (gN 1))
  (sSeq (sAsg (pLst aNil) (gN 2))
  (sSeq (sFor (iRng rng1 (aCons (pC (.int 12)) aNil)) (gN 3) (sSeq (sIf (pBool (pOp eqD (pOp modD (pVar 1) (pC (.int 2))) (pC (.int 1)))) (sDrop (pApp 2 (pVar 3))) sNext)
  (sAsg (pOp divD (pVar 1) (pC (.int 2))) (gN 1))))
  (sRet (pCB tupD (aCons (pVar 2) aNil))))))
noncomputable def F__law_stroke_of : FN := runF 4 g__law_stroke_of
noncomputable def g__law_read_book : FS := (sSeq (sAsg (pLst aNil) (gN 1))
  (sSeq (sFor (iRng rng1 (aCons (pOp addD (pC (.int 1)) (pOp modD (pOp ixD (pVar 0) (pC (.int 0))) (pC (.int 20)))) aNil)) (gN 2) (sSeq (sAsg (pCal F__law_name_of 1 (aCons (pOp ixD (pVar 0) (pOp addD (pC (.int 1)) (pOp mulE (pC (.int 2)) (pVar 2)))) aNil)) (gN 3))
  (sSeq (sAsg (pLst aNil) (gN 4))
  (sSeq (sAsg (pOp divD (pOp ixD (pVar 0) (pOp addD (pC (.int 2)) (pOp mulE (pC (.int 2)) (pVar 2)))) (pC (.int 6))) (gN 5))
  (sSeq (sFor (iRng rng1 (aCons (pOp addD (pC (.int 1)) (pOp modD (pOp ixD (pVar 0) (pOp addD (pC (.int 2)) (pOp mulE (pC (.int 2)) (pVar 2)))) (pC (.int 6)))) aNil)) (gN 6) (sSeq (sDrop (pApp 4 (pCal F__law_stroke_of 1 (aCons (pOp modD (pVar 5) (pC (.int 4095))) aNil))))
  (sAsg (pOp divD (pVar 5) (pC (.int 4095))) (gN 5))))
  (sIf (pBool (pOp ninD (pVar 3) (pComp 2 [] (iKeep 1) (gT 2 (gsC (gN 0) (gsC (gN 1) gsN))) qTrue (pVar 0)))) (sDrop (pApp 1 (pTup (aCons (pVar 3) (aCons (pCB tupD (aCons (pVar 4) aNil)) aNil))))) sNext))))))
  (sRet (pCB tupD (aCons (pVar 1) aNil)))))
noncomputable def F__law_read_book : FN := runF 7 g__law_read_book
noncomputable def g__law_wide : FS := (sSeq (sIf (qOr (pBool (pOp ltD (pVar 0) (pC (.int 0)))) (pBool (pOp geD (pVar 0) (pOp powD (pC (.int 10)) (pC (.int 18)))))) (sRet (pCB max2D (aCons (pVar 0) (aCons (pOp subD (pC (.int 0)) (pVar 0)) aNil)))) sNext)
  (sRet (pCal F__law_stirred 2 (aCons (pCal F__law_stirred 2 (aCons (pVar 0) (aCons (pVar 1) aNil))) (aCons (pC (.int 3)) aNil)))))
noncomputable def F__law_wide : FN := runF 2 g__law_wide
noncomputable def g__law_names : FS := (sSeq (sAsg (pC (.str "abcdefghijklmnopqrstuvwxyz")) (gN 2))
  (sSeq (sAsg (pOp ixS (pVar 2) (pOp modD (pOp divD (pVar 0) (pC (.int 3))) (pC (.int 26)))) (gN 3))
  (sSeq (sIf (qAnd (pBool (pOp eqD (pOp modD (pVar 0) (pC (.int 3))) (pC (.int 0)))) (pBool (pOp ltD (pVar 1) (pC (.int 9))))) (sRet (pComp 1 [3] (iRng rng1 (aCons (pVar 1) aNil)) (gN 0) qTrue (pOp L9.mulS (pVar 1) (pOp addD (pVar 0) (pC (.int 1)))))) sNext)
  (sSeq (sAsg (pOp modD (pOp divD (pVar 0) (pC (.int 78))) (pC (.int 8))) (gN 4))
  (sSeq (sAsg (pOp modD (pOp divD (pVar 0) (pC (.int 624))) (pOp addD (pVar 4) (pC (.int 1)))) (gN 5))
  (sSeq (sAsg (pLst aNil) (gN 6))
  (sSeq (sFor (iRng rng1 (aCons (pVar 1) aNil)) (gN 7) (sSeq (sAsg (pOp ixS (pVar 2) (pOp modD (pOp addD (pOp mulE (pVar 7) (pC (.int 7))) (pOp divD (pVar 0) (pC (.int 5616)))) (pC (.int 26)))) (gN 8))
  (sDrop (pApp 6 (pOp addS (pOp addS (pOp L9.mulS (pVar 3) (pVar 5)) (pVar 8)) (pOp L9.mulS (pVar 3) (pOp subD (pVar 4) (pVar 5))))))))
  (sRet (pVar 6)))))))))
noncomputable def F__law_names : FN := runF 9 g__law_names
noncomputable def g__law_stroke : FS := (sSeq (sAsg (pLst (aCons (pTup (aCons (pC (.int 0)) aNil)) (aCons (pTup (aCons (pC (.int 1)) aNil)) (aCons (pTup (aCons (pC (.int 0)) (aCons (pC (.int 1)) aNil))) (aCons (pTup (aCons (pC (.int 2)) (aCons (pC (.int 11)) aNil))) aNil))))) (gN 2))
  (sSeq (sIf (pBool (pVar 1)) (sSeq (sAsg (pOp divD (pVar 0) (pC (.int 4))) (gN 3))
  (sSeq (sAsg (pLst aNil) (gN 4))
  (sSeq (sFor (iRng rng1 (aCons (pC (.int 12)) aNil)) (gN 5) (sSeq (sIf (pBool (pOp eqD (pOp modD (pVar 3) (pC (.int 2))) (pC (.int 1)))) (sDrop (pApp 4 (pVar 5))) sNext)
  (sAsg (pOp divD (pVar 3) (pC (.int 2))) (gN 3))))
  (sIf (pBool (pOp gtD (pCB lenD (aCons (pVar 4) aNil)) (pC (.int 0)))) (sRet (pCB tupD (aCons (pVar 4) aNil))) sNext)))) sNext)
  (sRet (pOp ixD (pVar 2) (pOp modD (pVar 0) (pC (.int 4)))))))
noncomputable def F__law_stroke : FN := runF 6 g__law_stroke
noncomputable def g__law_book : FS := (sSeq (sAsg (pCal F__law_cell 2 (aCons (pVar 0) (aCons (pVar 1) aNil))) (gN 2))
  (sSeq (sIf (qOr (pBool (pOp ltD (pVar 2) (pC (.int 0)))) (pBool (pOp geD (pVar 2) (pOp powD (pC (.int 10)) (pC (.int 18)))))) (sRet (pCal F__law_read_book 1 (aCons (pCal F__law_stream 2 (aCons (pVar 2) (aCons (pC (.int 41)) aNil))) aNil))) sNext)
  (sSeq (sAsg (pCal F__law_wide 2 (aCons (pVar 2) (aCons (pC (.int 1)) aNil))) (gN 2))
  (sSeq (sAsg (pOp modD (pOp divD (pVar 2) (pC (.int 6))) (pC (.int 4))) (gN 3))
  (sSeq (sAsg (pOp addD (pC (.int 1)) (pOp modD (pVar 2) (pC (.int 6)))) (gN 4))
  (sSeq (sAsg (pC (.int 4)) (gN 5))
  (sSeq (sIf (pBool (pOp eqD (pOp modD (pOp divD (pVar 2) (pC (.int 24))) (pC (.int 8))) (pC (.int 3)))) (sSeq (sAsg (pOp addD (pC (.int 12)) (pOp modD (pOp divD (pVar 2) (pC (.int 192))) (pC (.int 9)))) (gN 4))
  (sAsg (pC (.int 6)) (gN 5))) sNext)
  (sSeq (sAsg (pCal F__law_names 2 (aCons (pCal F__law_wide 2 (aCons (pCal F__law_cell 2 (aCons (pVar 0) (aCons (pOp addD (pVar 1) (pC (.int 1))) aNil))) (aCons (pC (.int 2)) aNil))) (aCons (pVar 4) aNil))) (gN 6))
  (sSeq (sAsg (pLst aNil) (gN 7))
  (sSeq (sFor (iRng rng1 (aCons (pVar 4) aNil)) (gN 8) (sSeq (sAsg (pCal F__law_wide 2 (aCons (pCal F__law_cell 2 (aCons (pVar 0) (aCons (pOp addD (pOp addD (pVar 1) (pC (.int 2))) (pOp modD (pVar 8) (pC (.int 6)))) aNil))) (aCons (pOp addD (pC (.int 3)) (pVar 8)) aNil))) (gN 9))
  (sSeq (sAsg (pLst aNil) (gN 10))
  (sSeq (sFor (iRng rng1 (aCons (pOp addD (pC (.int 1)) (pOp modD (pVar 9) (pVar 5))) aNil)) (gN 11) (sSeq (sAsg (pOp divD (pVar 9) (pC (.int 4))) (gN 9))
  (sDrop (pApp 10 (pCal F__law_stroke 2 (aCons (pOp ixD (pLst (aCons (pOp modD (pVar 9) (pC (.int 2))) (aCons (pVar 9) (aCons (pVar 9) (aCons (pVar 9) aNil))))) (pVar 3)) (aCons (pOp eqD (pVar 3) (pC (.int 1))) aNil)))))))
  (sDrop (pApp 7 (pTup (aCons (pOp ixD (pVar 6) (pVar 8)) (aCons (pCB tupD (aCons (pVar 10) aNil)) aNil)))))))))
  (sRet (pCB tupD (aCons (pVar 7) aNil)))))))))))))
noncomputable def F__law_book : FN := runF 12 g__law_book
noncomputable def g__law_changed : FS := (sSeq (sIf (pBool (pOp eqD (pVar 1) (pC (.int 0)))) (sRet (pTup aNil)) sNext)
  (sSeq (sIf (pBool (pOp eqD (pVar 1) (pC (.int 1)))) (sSeq (sAsg (pLst aNil) (gN 3))
  (sSeq (sFor (iRng rng1 (aCons (pOp addE (pCB max2D (aCons (pC (.int 0)) (aCons (pOp subD (pC (.int 20)) (pCB lenD (aCons (pVar 0) aNil))) aNil))) (pOp modD (pVar 2) (pC (.int 2)))) aNil)) (gN 4) (sDrop (pApp 3 (pTup (aCons (pOp addS (pSl sliceS (pC (.str "qqqqqqq")) (oSome (pOp modD (pVar 4) (pC (.int 7)))) oNone) (pOp ixS (pC (.str "abcdefghijklmnopqrstuvwxyz")) (pVar 4))) (aCons (pTup (aCons (pTup (aCons (pOp modD (pVar 4) (pC (.int 12))) aNil)) aNil)) aNil))))))
  (sRet (pOp addE (pVar 0) (pCB tupD (aCons (pVar 3) aNil)))))) sNext)
  (sSeq (sAsg (pOp modD (pVar 2) (pCB lenD (aCons (pVar 0) aNil))) (gN 5))
  (sSeq (sAsg (pOp ixD (pVar 0) (pVar 5)) (gT 2 (gsC (gN 6) (gsC (gN 7) gsN))))
  (sSeq (sAsg (pOp divD (pVar 2) (pCB lenD (aCons (pVar 0) aNil))) (gN 2))
  (sSeq (sIf (pBool (pOp eqD (pVar 1) (pC (.int 2)))) (sSeq (sAsg (pOp modD (pVar 2) (pOp addE (pCB lenD (aCons (pVar 0) aNil)) (pC (.int 1)))) (gN 8))
  (sRet (pOp addE (pOp addE (pSl slE (pVar 0) oNone (oSome (pVar 8))) (pTup (aCons (pTup (aCons (pVar 6) (aCons (pTup (aCons (pTup (aCons (pC (.int 3)) aNil)) aNil)) aNil))) aNil))) (pSl slE (pVar 0) (oSome (pVar 8)) oNone)))) sNext)
  (sSeq (sIf (pBool (pOp eqD (pVar 1) (pC (.int 3)))) (sAsg (pOp ixD (pLst (aCons (pC (.str "")) (aCons (pOp addS (pVar 6) (pC (.str "abcdefgh"))) (aCons (pOp addS (pSl sliceS (pVar 6) oNone (oSome (pC (.int 7)))) (pC (.str "A"))) (aCons (pOp addS (pSl sliceS (pVar 6) oNone (oSome (pC (.int 7)))) (pC (.str "3"))) (aCons (pOp addS (pSl sliceS (pVar 6) oNone (oSome (pC (.int 7)))) (pC (.str "+"))) (aCons (pOp addS (pC (.str " ")) (pSl sliceS (pVar 6) oNone (oSome (pC (.int 7))))) aNil))))))) (pOp modD (pVar 2) (pC (.int 6)))) (gN 6)) sNext)
  (sSeq (sIf (pBool (pOp eqD (pVar 1) (pC (.int 4)))) (sSeq (sAsg (pSl slE (pOp addE (pVar 7) (pTup (aCons (pTup (aCons (pC (.int 0)) aNil)) (aCons (pTup (aCons (pC (.int 1)) aNil)) (aCons (pTup (aCons (pC (.int 2)) aNil)) (aCons (pTup (aCons (pC (.int 3)) aNil)) (aCons (pTup (aCons (pC (.int 4)) aNil)) (aCons (pTup (aCons (pC (.int 5)) aNil)) aNil)))))))) oNone (oSome (pOp addE (pC (.int 6)) (pOp modD (pOp divD (pVar 2) (pC (.int 3))) (pC (.int 2)))))) (gN 9))
  (sAsg (pOp ixD (pLst (aCons (pTup aNil) (aCons (pVar 9) (aCons (pVar 9) aNil)))) (pOp modD (pVar 2) (pC (.int 3)))) (gN 7))) sNext)
  (sSeq (sIf (pBool (pOp eqD (pVar 1) (pC (.int 5)))) (sSeq (sAsg (pOp ixD (pLst (aCons (pTup aNil) (aCons (pTup (aCons (pC (.int 1)) (aCons (pC (.int 0)) aNil))) (aCons (pTup (aCons (pC (.int 3)) (aCons (pC (.int 3)) aNil))) (aCons (pTup (aCons (pUn negD (pC (.int 1))) (aCons (pC (.int 2)) aNil))) (aCons (pTup (aCons (pC (.int 2)) (aCons (pC (.int 12)) aNil))) (aCons (pTup (aCons (pC (.int 12)) aNil)) aNil))))))) (pOp modD (pVar 2) (pC (.int 6)))) (gN 10))
  (sSeq (sAsg (pOp modD (pOp divD (pVar 2) (pC (.int 6))) (pCB max2D (aCons (pC (.int 1)) (aCons (pCB lenD (aCons (pVar 7) aNil)) aNil)))) (gN 8))
  (sAsg (pOp addE (pOp addE (pSl slE (pVar 7) oNone (oSome (pVar 8))) (pTup (aCons (pVar 10) aNil))) (pSl slE (pVar 7) (oSome (pOp addE (pVar 8) (pC (.int 1)))) oNone)) (gN 7)))) sNext)
  (sRet (pOp addE (pOp addE (pSl slE (pVar 0) oNone (oSome (pVar 5))) (pTup (aCons (pTup (aCons (pVar 6) (aCons (pVar 7) aNil))) aNil))) (pSl slE (pVar 0) (oSome (pOp addE (pVar 5) (pC (.int 1)))) oNone))))))))))))
noncomputable def F__law_changed : FN := runF 11 g__law_changed
noncomputable def g_is_letter : FS := (sRet (pAnd (pOp eqD (pCB lenS (aCons (pVar 0) aNil)) (pC (.int 1))) (pChain leS leS (pC (.str "a")) (pVar 0) (pC (.str "z")))))
noncomputable def F_is_letter : FN := runF 1 g_is_letter
noncomputable def g_is_word : FS := (sRet (pAnd (pChain leD leD (pC (.int 1)) (pCB lenS (aCons (pVar 0) aNil)) (pC (.int 8))) (pCB allD (aCons (pComp 1 [] (iSigns (pVar 0)) (gN 0) qTrue (pCal F_is_letter 1 (aCons (pVar 0) aNil))) aNil))))
noncomputable def F_is_word : FN := runF 1 g_is_word
noncomputable def g_rises : FS := (sRet (pCB allD (aCons (pComp 2 [] (iZip (aCons (pVar 0) (aCons (pSl slD (pVar 0) (oSome (pC (.int 1))) oNone) aNil))) (gT 2 (gsC (gN 0) (gsC (gN 1) gsN))) qTrue (pOp ltD (pVar 0) (pVar 1))) aNil)))
noncomputable def F_rises : FN := runF 1 g_rises
noncomputable def g_is_stroke : FS := (sRet (pAnd (pOp geD (pCB lenD (aCons (pVar 0) aNil)) (pC (.int 1))) (pAnd (pCal F_rises 1 (aCons (pVar 0) aNil)) (pCB allD (aCons (pComp 1 [] (iSeq (pVar 0)) (gN 0) qTrue (pChain leD ltD (pC (.int 0)) (pVar 0) (pC (.int 12)))) aNil)))))
noncomputable def F_is_stroke : FN := runF 1 g_is_stroke
noncomputable def g_are_strokes : FS := (sRet (pAnd (pChain leD leD (pC (.int 1)) (pCB lenD (aCons (pVar 0) aNil)) (pC (.int 6))) (pCB allD (aCons (pComp 1 [] (iSeq (pVar 0)) (gN 0) qTrue (pCal F_is_stroke 1 (aCons (pVar 0) aNil))) aNil))))
noncomputable def F_are_strokes : FN := runF 1 g_are_strokes
noncomputable def g_checked_bookR : FS := (sSeq (sIf (qNot (pBool (pChain leD leD (pC (.int 1)) (pCB lenD (aCons (pVar 0) aNil)) (pC (.int 20))))) (L9.sRaiseF "NoBook" "place" (pC .none)) sNext)
  (sSeq (sFor (L3.iEnum (aCons (pVar 0) aNil)) (gT 2 (gsC (gN 1) (gsC (gN 2) gsN))) (sSeq (sAsg (pOp inD (pOp ixD (pVar 2) (pC (.int 0))) (pComp 1 [] (iSeq (pSl slE (pVar 0) oNone (oSome (pVar 1)))) (gN 0) qTrue (pOp ixD (pVar 0) (pC (.int 0))))) (gN 3))
  (sIf (qOr (pBool (pVar 3)) (qOr (qNot (pBool (pCal F_is_word 1 (aCons (pOp ixD (pVar 2) (pC (.int 0))) aNil)))) (qNot (pBool (pCal F_are_strokes 1 (aCons (pOp ixD (pVar 2) (pC (.int 1))) aNil)))))) (L9.sRaiseF "NoBook" "place" (pVar 1)) sNext)))
  (sRet (pVar 0))))
noncomputable def F_checked_bookR : FN := runF 4 g_checked_bookR
noncomputable def F__law_told : FN
  | [b] => (match F_checked_bookR [b] with
    | .er x => if x.cls = "NoBook" then (match x.fs with
      | [(f, d)] => if f = "place" ∧ L9.fsD d = true then .ok (.fz (.tuple [d])) else .bad
      | _ => .bad) else .bad
    | .ok (.fz (.tuple ds)) => (match eqD (.tuple ds) b with
      | some (.fz (.bool true)) => .ok (.fz .none)
      | _ => .bad)
    | _ => .bad)
  | _ => .bad
noncomputable def g__law_good : FS := (sSeq (sAsg (pOp ixD (pVar 0) (pVar 1)) (gT 2 (gsC (gN 2) (gsC (gN 3) gsN))))
  (sSeq (sIf (qOr (pBool (L9.pInR true (pCB lenS (aCons (pVar 2) aNil)) (aCons (pC (.int 1)) (aCons (pC (.int 9)) aNil)))) (qNot (pBool (pCB allD (aCons (pComp 1 [] (iSigns (pVar 2)) (gN 0) qTrue (pChain leS leS (pC (.str "a")) (pVar 0) (pC (.str "z")))) aNil))))) (sRet (pC (.bool false))) sNext)
  (sSeq (sIf (qOr (pBool (pOp inD (pVar 2) (pComp 2 [] (iSeq (pSl slE (pVar 0) oNone (oSome (pVar 1)))) (gT 2 (gsC (gN 0) (gsC (gN 1) gsN))) qTrue (pVar 0)))) (pBool (L9.pInR true (pCB lenD (aCons (pVar 3) aNil)) (aCons (pC (.int 1)) (aCons (pC (.int 7)) aNil))))) (sRet (pC (.bool false))) sNext)
  (sSeq (sFor (iSeq (pVar 3)) (gN 4) (sIf (qOr (pBool (pOp eqD (pCB lenD (aCons (pVar 4) aNil)) (pC (.int 0)))) (qOr (pBool (pOp ltD (pOp ixD (pVar 4) (pC (.int 0))) (pC (.int 0)))) (qOr (pBool (pOp gtD (pOp ixD (pVar 4) (pUn negD (pC (.int 1)))) (pC (.int 11)))) (qOr (pBool (pOp neD (pCB lstD (aCons (pVar 4) aNil)) (pCB L9.sortedE (aCons (pVar 4) aNil)))) (pBool (pOp ltD (L9.pLenSet (aCons (pVar 4) aNil)) (pCB lenD (aCons (pVar 4) aNil)))))))) (sRet (pC (.bool false))) sNext))
  (sRet (pC (.bool true)))))))
noncomputable def F__law_good : FN := runF 5 g__law_good
noncomputable def g__law_due : FS := (sSeq (sIf (pBool (L9.pInR true (pCB lenD (aCons (pVar 0) aNil)) (aCons (pC (.int 1)) (aCons (pC (.int 21)) aNil)))) (sRet (pTup (aCons (pC .none) aNil))) sNext)
  (sSeq (sFor (iRng rng1 (aCons (pCB lenD (aCons (pVar 0) aNil)) aNil)) (gN 1) (sIf (qNot (pBool (pCal F__law_good 2 (aCons (pVar 0) (aCons (pVar 1) aNil))))) (sRet (pTup (aCons (pVar 1) aNil))) sNext))
  (sRet (pC .none))))
noncomputable def F__law_due : FN := runF 2 g__law_due
noncomputable def g_law : FS := (sSeq (sAsg (pCal F__law_book 2 (aCons (pVar 0) (aCons (pC (.int 0)) aNil))) (gN 1))
  (sSeq (sAsg (pVar 1) (gN 2))
  (sSeq (sFor (iRng rng1 (aCons (pOp modD (pCal F__law_wide 2 (aCons (pCal F__law_cell 2 (aCons (pVar 0) (aCons (pC (.int 9)) aNil))) (aCons (pC (.int 30)) aNil))) (pC (.int 3))) aNil)) (gN 3) (sIf (pBool (pOp gtD (pCB lenD (aCons (pVar 2) aNil)) (pC (.int 0)))) (sSeq (sAsg (pOp modD (pCal F__law_wide 2 (aCons (pCal F__law_cell 2 (aCons (pVar 0) (aCons (pOp addD (pC (.int 10)) (pOp mulE (pC (.int 2)) (pVar 3))) aNil))) (aCons (pOp addD (pC (.int 31)) (pVar 3)) aNil))) (pC (.int 6))) (gN 4))
  (sAsg (pCal F__law_changed 3 (aCons (pVar 2) (aCons (pVar 4) (aCons (pCal F__law_wide 2 (aCons (pCal F__law_cell 2 (aCons (pVar 0) (aCons (pOp addD (pC (.int 11)) (pOp mulE (pC (.int 2)) (pVar 3))) aNil))) (aCons (pOp addD (pC (.int 33)) (pVar 3)) aNil))) aNil)))) (gN 2))) sNext))
  (sRet (pAnd (pOp eqD (pCal F__law_told 1 (aCons (pVar 2) aNil)) (pCal F__law_due 1 (aCons (pVar 2) aNil))) (pOp isnD (pCal F__law_told 1 (aCons (pVar 1) aNil)) (pC .none)))))))
noncomputable def F_law : FN := runF 5 g_law
noncomputable def g__law_whole : FS := (sRet (pAnd (pIsi "int" (pVar 0)) (pNot (pIsi "bool" (pVar 0)))))
noncomputable def F__law_whole : FN := runF 1 g__law_whole
noncomputable def cutI (ns : List Int) (lo hi : Option Int) : List Int := (ns.drop (HT.sIx ns.length 0 lo)).take (HT.sIx ns.length ns.length hi - HT.sIx ns.length 0 lo)
theorem cell_ok (ns : List Int) (k : Int) (hk : 0 ≤ k) (hl : ns.length ≤ 63) : ∃ c : Int, F__law_cell [.list (ns.map .int), .int k] = .ok (.fz (.int c)) := by
  unfold F__law_cell g__law_cell
  have e1 : slD (.list (ns.map .int)) (some k) (some (k + 1)) = some (.ow (cutD (ns.map .int) (some k) (some (k + 1)))) := rfl
  have hc : cutD (ns.map PyData.int) (some k) (some (k + 1)) = (cutI ns (some k) (some (k + 1))).map .int := by unfold cutD cutI; rw [List.length_map, List.map_take, List.map_drop]
  rw [hc] at e1
  have hcl : (cutI ns (some k) (some (k + 1))).length ≤ 63 := by
    unfold cutI
    rw [List.length_take, List.length_drop]
    omega
  generalize cutI ns (some k) (some (k + 1)) = cs at e1 hcl
  have e2 : addD (.list (cs.map .int)) (.list [.int 0]) = some (.ow (cs.map .int ++ [.int 0])) := by
    show (if (cs.map PyData.int).length + 1 ≤ 1000000 then _ else _) = _
    rw [List.length_map, if_pos (by omega)]
  cases cs with
  | nil =>
    have e3 : ixD (.list (([] : List Int).map PyData.int ++ [.int 0])) (.int 0) = some (.fz (.int 0)) := ixl0
    exact ⟨0, go_val (ρ := [some (.fz (.list (ns.map .int))), some (.fz (.int k))]) rfl (go_ret (by walk_at "ev") rfl rfl)⟩
  | cons c r =>
    have e3 : ixD (.list ((c :: r).map PyData.int ++ [.int 0])) (.int 0) = some (.fz (.int c)) := ixl0
    exact ⟨c, go_val (ρ := [some (.fz (.list (ns.map .int))), some (.fz (.int k))]) rfl (go_ret (by walk_at "ev") rfl rfl)⟩
theorem stirred_ok (c s : Int) (h0 : 0 ≤ s) (h1 : s ≤ 1000) : ∃ r : Int, 0 ≤ r ∧ F__law_stirred [.int c, .int s] = .ok (.fz (.int r)) := by
  unfold F__law_stirred g__law_stirred
  have b1 : 0 ≤ c % 1000000007 ∧ c % 1000000007 < 1000000007 := ⟨Int.emod_nonneg _ (by decide), Int.emod_lt_of_pos _ (by decide)⟩
  have m1 : modD (.int c) (.int 1000000007) = some (.fz (.int (c % 1000000007))) := tr_mod (by decide)
  have m2 : mulE (.int 13) (.int s) = some (.fz (.int (13 * s))) := trE_mulL ⟨by omega, by omega⟩
  generalize c % 1000000007 = x at b1 m1
  have m3 : mulE (.int s) (.int s) = some (.fz (.int (s * s))) := trE_mulL ⟨by omega, by omega⟩
  generalize s * s = ss at m3
  have m4 : mulE (.int (x + 13 * s)) (.int (x + 13 * s + ss + 11)) = some (.fz (.int ((x + 13 * s) * (x + 13 * s + ss + 11)))) := trE_mulL ⟨by omega, by omega⟩
  generalize (x + 13 * s) * (x + 13 * s + ss + 11) = y at m4
  have m5 : mulE (.int 40487) (.int s) = some (.fz (.int (40487 * s))) := trE_mulL ⟨by omega, by omega⟩
  have b2 : 0 ≤ (y + 40487 * s + 7) % 1000000033 ∧ (y + 40487 * s + 7) % 1000000033 < 1000000033 := ⟨Int.emod_nonneg _ (by decide), Int.emod_lt_of_pos _ (by decide)⟩
  have m6 : modD (.int (y + 40487 * s + 7)) (.int 1000000033) = some (.fz (.int ((y + 40487 * s + 7) % 1000000033))) := tr_mod (by decide)
  generalize (y + 40487 * s + 7) % 1000000033 = z at b2 m6
  have m7 : divD (.int z) (.int 7) = some (.fz (.int (z / 7))) := tr_div ⟨by omega, by omega⟩
  have m8 : mulE (.int z) (.int (z / 7 + 31)) = some (.fz (.int (z * (z / 7 + 31)))) := trE_mulL ⟨by omega, by omega⟩
  generalize z * (z / 7 + 31) = u at m8
  have b3 : 0 ≤ (u + 90001) % 999999937 := Int.emod_nonneg _ (by decide)
  have m9 : modD (.int (u + 90001)) (.int 999999937) = some (.fz (.int ((u + 90001) % 999999937))) := tr_mod (by decide)
  have m10 : divD (.int ((u + 90001) % 999999937)) (.int 3) = some (.fz (.int ((u + 90001) % 999999937 / 3))) := tr_div ⟨by omega, by omega⟩
  refine ⟨(u + 90001) % 999999937 / 3, by omega, go_val (ρ := [some (.fz (.int c)), some (.fz (.int s)), none]) rfl (go_seq (go_asg (by walk_at "ev") rfl (go_seq (go_asg (by walk_at "ev") rfl (go_ret (by walk_at "ev") rfl rfl)))))⟩
theorem max_nn (c : Int) : 0 ≤ if 0 - c > c then 0 - c else c := by split <;> omega
theorem wide_ok (c s : Int) (h0 : 0 ≤ s) (h1 : s ≤ 1000) : ∃ r : Int, 0 ≤ r ∧ F__law_wide [.int c, .int s] = .ok (.fz (.int r)) := by
  unfold F__law_wide g__law_wide
  obtain ⟨r, hr, er⟩ := stirred_ok c s h0 h1
  obtain ⟨q, hq, eq⟩ := stirred_ok r 3 (by decide) (by decide)
  have em : max2D [.int c, .int (0 - c)] = some (.fz (.int (if 0 - c > c then 0 - c else c))) := rfl
  have nn := max_nn c
  generalize (if 0 - c > c then 0 - c else c) = mx at em nn
  obtain ⟨rv, e, t⟩ := go_run (ds := [.int c, .int s]) (ρ := [some (.fz (.int c)), some (.fz (.int s))]) (n := 2) (g := g__law_wide) (T := fun v => ∃ r : Int, 0 ≤ r ∧ v = .fz (.int r)) rfl
    (go_seq (go_if (by walk_at "ev") (fun _ => go_ret (by walk_at "ev") rfl ⟨mx, nn, rfl⟩) (fun _ => go_next (go_ret (by walk_at "ev") rfl ⟨q, hq, rfl⟩))))
  obtain ⟨r, h, rfl⟩ := t
  exact ⟨r, h, e⟩
theorem stream_ok (c : Int) : ∃ xs : List Int, xs.length = 41 ∧ (∀ x ∈ xs, 0 ≤ x) ∧ F__law_stream [.int c, .int 41] = .ok (.ow (xs.map .int)) := by
  have nn := max_nn c
  have em : max2D [.int c, .int (0 - c)] = some (.fz (.int (if 0 - c > c then 0 - c else c))) := rfl
  generalize (if 0 - c > c then 0 - c else c) = mx at em nn
  have p8 := pow8
  have p24 := pow24
  have r20 : rng1 [.int 41] = some (nds (List.range 41)) := rng1_i (n := 41) (by decide) (by decide)
  have r3 : rng1 [.int 3] = some (nds (List.range 3)) := rng1_i (n := 3) (by decide) (by decide)
  obtain ⟨rv, e, xs, h1, h2, rfl⟩ := go_run (ds := [.int c, .int 41]) (ρ := [some (.fz (.int c)), some (.fz (.int 41)), none, none, none, none, none]) (n := 7) (g := g__law_stream) (T := fun v => ∃ xs : List Int, xs.length = 41 ∧ (∀ x ∈ xs, 0 ≤ x) ∧ v = .ow (xs.map .int)) rfl (by
    unfold g__law_stream
    walk_at "go"
    with_reducible apply gs_for (fun i ρ => ∃ (xs : List Int) (l : Int) (t4 t5 t6 : Option PV), ρ = [some (.fz (.int c)), some (.fz (.int 41)), some (.ow (xs.map .int)), some (.fz (.int l)), t4, t5, t6] ∧ xs.length = i ∧ (∀ x ∈ xs, 0 ≤ x) ∧ 0 ≤ l)
    · walk_at "ev"
    · exact ⟨[], mx, none, none, none, rfl, rfl, fun x h => (by cases h), nn⟩
    · rintro i d ρ hi ⟨xs, l, t4, t5, t6, rfl, hxl, hx, hl⟩
      obtain ⟨k, hk, rfl⟩ := nds_get hi
      have hk20 : k < 41 := List.mem_range.mp (List.mem_of_getElem? hk)
      have hi20 : i < 41 := by have := (List.getElem?_eq_some_iff.mp hk).1; simpa using this
      refine ⟨_, rfl, ?_⟩
      walk_at "go"
      with_reducible apply gs_for (fun i ρ => ∃ (x : Int) (t6 : Option PV), ρ = [some (.fz (.int c)), some (.fz (.int 41)), some (.ow (xs.map .int)), some (.fz (.int l)), some (.fz (nd k)), some (.fz (.int x)), t6] ∧ 0 ≤ x)
      · walk_at "ev"
      · exact ⟨0, t6, rfl, by decide⟩
      · rintro j d ρ hj ⟨x, t6, rfl, hx0⟩
        obtain ⟨jj, hjj, rfl⟩ := nds_get hj
        have hj3 : jj < 3 := List.mem_range.mp (List.mem_of_getElem? hjj)
        obtain ⟨r, hr, er⟩ := stirred_ok c (3 * (k : Int) + (jj : Int)) (by omega) (by omega)
        have m1 : mulE (.int 3) (nd k) = some (.fz (.int (3 * (k : Int)))) := trE_mulL ⟨by omega, by omega⟩
        have m2 : mulE (.int x) (.int (10 ^ 8)) = some (.fz (.int (x * 10 ^ 8))) := trE_mulR ⟨by decide, by decide⟩
        have m3 : modD (.int r) (.int (10 ^ 8)) = some (.fz (.int (r % 10 ^ 8))) := tr_mod (by decide)
        have n3 : 0 ≤ r % 10 ^ 8 := Int.emod_nonneg _ (by decide)
        refine ⟨_, rfl, ?_⟩
        walk_at "go"
        refine ⟨x * 10 ^ 8 + r % 10 ^ 8, _, rfl, ?_⟩
        have : 0 ≤ x * 10 ^ 8 := Int.mul_nonneg hx0 (by decide)
        omega
      · rintro ρ ⟨x, t6, rfl, hx0⟩
        have m3 : modD (.int l) (.int (10 ^ 24)) = some (.fz (.int (l % 10 ^ 24))) := tr_mod (by decide)
        have m4 : divD (.int l) (.int (10 ^ 24)) = some (.fz (.int (l / 10 ^ 24))) := tr_div ⟨by decide, by decide⟩
        have n3 : 0 ≤ l % 10 ^ 24 := Int.emod_nonneg _ (by decide)
        have n4 : 0 ≤ l / 10 ^ 24 := Int.ediv_nonneg hl (by decide)
        have fin : ∀ (x l : Int) (t6 : Option PV), 0 ≤ x → 0 ≤ l → Go (sDrop (pApp 2 (pVar 5)) [some (.fz (.int c)), some (.fz (.int 41)), some (.ow (xs.map .int)), some (.fz (.int l)), some (.fz (nd k)), some (.fz (.int x)), t6])
            (fun ρ => ∃ (xs : List Int) (l : Int) (t4 t5 t6 : Option PV), ρ = [some (.fz (.int c)), some (.fz (.int 41)), some (.ow (xs.map .int)), some (.fz (.int l)), t4, t5, t6] ∧ xs.length = i + 1 ∧ (∀ x ∈ xs, 0 ≤ x) ∧ 0 ≤ l)
            (fun ρ => ∃ (xs : List Int) (l : Int) (t4 t5 t6 : Option PV), ρ = [some (.fz (.int c)), some (.fz (.int 41)), some (.ow (xs.map .int)), some (.fz (.int l)), t4, t5, t6] ∧ xs.length = i + 1 ∧ (∀ x ∈ xs, 0 ≤ x) ∧ 0 ≤ l)
            (fun v => ∃ xs : List Int, xs.length = 41 ∧ (∀ x ∈ xs, 0 ≤ x) ∧ v = .ow (xs.map .int)) := fun x l t6 h0 h1 => by
          have hlen : (xs.map PyData.int).length < 1000000 := by rw [List.length_map]; omega
          refine go_drop (by walk_at "ev") ⟨xs ++ [x], l, _, _, _, by rw [List.map_append]; rfl, by rw [List.length_append, hxl]; rfl, fun y hy => ?_, h1⟩
          rcases List.mem_append.mp hy with z | z
          · exact hx y z
          · rw [List.mem_singleton.mp z]; exact h0
        have p18 := pow18
        walk_at "go"
        · intro _
          walk_at "go"
          exact fin _ _ _ n3 n4
        · intro _
          exact gs_next (fin _ _ _ hx0 hl)
    · rintro ρ ⟨xs, l, t4, t5, t6, rfl, hxl, hx, hl⟩
      exact go_ret (by walk_at "ev") rfl ⟨xs, hxl, hx, rfl⟩)
  exact ⟨xs, h1, h2, e⟩
noncomputable def tx (l : List Nat) : Str := ⟨l.toArray⟩
theorem tx_add (a b : List Nat) : tx a ++ tx b = tx (a ++ b) := by
  show (⟨a.toArray ++ b.toArray⟩ : Str) = ⟨(a ++ b).toArray⟩
  rw [List.append_toArray]
theorem tx_len (l : List Nat) : (tx l).length = l.length := by
  show l.toArray.size = _
  rw [List.size_toArray]
theorem tx_ok {l : List Nat} (h : ∀ c ∈ l, c < 1114112) : PyData.strOk (tx l) = true := by
  show l.toArray.all (fun c => decide (c < 0x110000)) = true
  rw [← Array.all_toList, List.all_eq_true]
  exact fun c hc => decide_eq_true (h c hc)
theorem tx_inj {a b : List Nat} (h : tx a = tx b) : a = b := congrArg (fun z : Str => z.cps.toList) h
theorem tx_cps (z : Str) : tx z.cps.toList = z := rfl
theorem signs_tx (l : List Nat) : signsD (tx l) = l.map fun c => PyData.str (tx [c]) := rfl
theorem lenS_tx {l : List Nat} (h : l.length ≤ 1000) : lenS [.str (tx l)] = some (.fz (.int (l.length : Int))) := by
  show (if (tx l).length ≤ 1000000 then some (RV.fz (.int ((tx l).length : Int))) else none) = _
  rw [tx_len, if_pos (by omega)]
theorem addS_tx {a b : List Nat} (h : a.length + b.length ≤ 1000) : addS (.str (tx a)) (.str (tx b)) = some (.fz (.str (tx (a ++ b)))) := by
  show (if (tx a).length + (tx b).length ≤ 1000000 then some (RV.fz (.str (tx a ++ tx b))) else none) = _
  rw [tx_len, tx_len, if_pos (by omega), tx_add]
theorem rep_cat (c : Nat) : ∀ (n : Nat) (a : Array Nat), (List.replicate n (#[c] : Array Nat)).foldl (· ++ ·) a = a ++ (List.replicate n c).toArray
  | 0, a => by simp
  | n + 1, a => by
    rw [List.replicate_succ, List.foldl_cons, rep_cat c n, List.replicate_succ]
    apply Array.toList_inj.mp
    simp
theorem tx_mul (c : Nat) (n : Nat) : Txt.mul (tx [c]) (n : Int) = tx (List.replicate n c) := by
  unfold Txt.mul
  by_cases h0 : n = 0
  · subst h0; rfl
  rw [if_neg (by omega)]
  by_cases h1 : n = 1
  · subst h1; rfl
  rw [if_neg (by
    intro z
    have z : (((n : Int) == 1) || ((tx [c]).length == 0)) = true := z
    rw [tx_len] at z
    simp at z
    omega)]
  show (⟨(List.replicate (n : Int).toNat (#[c] : Array Nat)).foldl (· ++ ·) #[]⟩ : Str) = _
  rw [rep_cat, Int.toNat_natCast]
  simp
  rfl
theorem mulS_tx {c : Nat} {i : Int} (h0 : 0 ≤ i) (h1 : i ≤ 1000) : L9.mulS (.str (tx [c])) (.int i) = some (.fz (.str (tx (List.replicate i.toNat c)))) := by
  show (if (tx [c]).length ≤ 1000 ∧ 0 ≤ i ∧ i ≤ 1000 then some (RV.fz (.str (Txt.mul (tx [c]) i))) else none) = _
  rw [if_pos ⟨by rw [tx_len]; exact Nat.le_of_ble_eq_true rfl, h0, h1⟩]
  obtain ⟨n, rfl⟩ : ∃ n : Nat, i = (n : Int) := ⟨i.toNat, by omega⟩
  rw [tx_mul, Int.toNat_natCast]
theorem slice_sub (x : Str) (l u : Option Int) : ∀ c ∈ (Txt.slice x l u).cps.toList, c ∈ x.cps.toList := by
  unfold Txt.slice
  split
  · exact fun c h => h
  · intro c h
    obtain ⟨i, _, hi⟩ := List.mem_filterMap.mp (show c ∈ List.filterMap (fun i => x.cps[i]?) _ from h)
    exact Array.mem_toList_iff.mpr (Array.mem_of_getElem? hi)
theorem sliceS_tx {l : List Nat} (h : l.length ≤ 1000) (lo hi : Option Int) : ∃ m : List Nat, m.length ≤ l.length ∧ (∀ c ∈ m, c ∈ l) ∧ sliceS (.str (tx l)) lo hi = some (.fz (.str (tx m))) := by
  refine ⟨(Txt.slice (tx l) lo hi).cps.toList, ?_, slice_sub (tx l) lo hi, ?_⟩
  · have := Txt.slice_le (tx l) lo hi
    rw [tx_len] at this
    exact this
  · show (if (tx l).length ≤ 1000000 then some (RV.fz (.str (Txt.slice (tx l) lo hi))) else none) = _
    rw [tx_len, if_pos (by omega)]
    rfl
noncomputable abbrev Wd := List Nat × List (List Int)
noncomputable def kD (ks : List Int) : D := .tuple (ks.map .int)
noncomputable def wD (e : Wd) : D := .tuple [.str (tx e.1), .tuple (e.2.map kD)]
noncomputable def bkD (B : List Wd) : D := .tuple (B.map wD)
structure FitE (n : Nat) (e : Wd) : Prop where
  wl : e.1.length ≤ 8 + 8 * n
  wc : ∀ c ∈ e.1, c < 1114112
  sl : e.2.length ≤ 7
  kl : ∀ ks ∈ e.2, ks.length ≤ 12
structure Fit (n : Nat) (B : List Wd) : Prop where
  len : B.length ≤ 20 + n
  en : ∀ e ∈ B, FitE n e
theorem comp_mg {α : Type} {f g : α → D} {gt : FG} {fe : FE} {ρ0 : PEnv} (I : PEnv → Prop) (xs : List α) (hl : xs.length ≤ 1000000) (h0 : I ρ0) (hs : ∀ x ∈ xs, ∀ ρ, I ρ → ∃ ρ', compT gt qTrue fe (f x) ρ = .ok (some (g x), ρ') ∧ I ρ') : noEr (compP gt qTrue fe (xs.map f) ρ0 []) = .ok (xs.map g) := by
  obtain ⟨ys, h1, h2, h3⟩ := comp_map (gt := gt) (ft := qTrue) (fe := fe) (ds := xs.map f) (ρ := ρ0) I (fun i y => ∃ x, xs[i]? = some x ∧ y = g x) h0 (by rw [List.length_map]; exact hl) (by
    intro i d hi ρ hI
    rw [List.getElem?_map] at hi
    cases q : xs[i]? with
    | none => rw [q] at hi; cases hi
    | some x =>
      obtain rfl : d = f x := by rw [q] at hi; exact (Option.some.inj hi).symm
      obtain ⟨ρ', e, hI'⟩ := hs x (List.mem_of_getElem? q) ρ hI
      exact ⟨_, _, e, hI', x, rfl, rfl⟩)
  rw [h1]
  congr 1
  refine List.ext_getElem? fun i => ?_
  rw [List.getElem?_map]
  cases q : ys[i]? with
  | none =>
    have : xs.length ≤ i := by
      have := List.getElem?_eq_none_iff.mp q
      rw [h2, List.length_map] at this
      exact this
    rw [List.getElem?_eq_none this]; rfl
  | some y =>
    obtain ⟨x, h4, rfl⟩ := h3 i y q
    rw [h4]; rfl
theorem comp_mv {α : Type} {f g : α → D} {fe : FE} {cp : PEnv} (xs : List α) (hl : xs.length ≤ 1000000) (hc : forget cp = cp) (he : ∀ x ∈ xs, fe (some (.fz (f x)) :: cp) = .ok (.fz (g x), some (.fz (f x)) :: cp)) : noEr (compP (gN 0) qTrue fe (xs.map f) (none :: cp) []) = .ok (xs.map g) := by
  refine comp_mg (fun ρ => ∃ o, ρ = o :: cp) xs hl ⟨none, rfl⟩ ?_
  rintro x hx ρ ⟨o, rfl⟩
  have fg : forget (some (PV.fz (f x)) :: cp) = some (.fz (f x)) :: cp := by
    show keepF _ :: forget cp = _
    rw [hc]; rfl
  exact ⟨_, ct_t rfl rfl (he x hx) rfl fg, _, rfl⟩
theorem asBs_map {α : Type} (p : α → Bool) : ∀ l : List α, asBs (l.map fun c => PyData.bool (p c)) = some (l.map p)
  | [] => rfl
  | c :: r => by
    show (asBs (r.map fun c => PyData.bool (p c))).map (p c :: ·) = _
    rw [asBs_map p r]; rfl
theorem allD_map {α : Type} (p : α → Bool) (l : List α) : allD [.list (l.map fun c => PyData.bool (p c))] = some (.fz (.bool (l.all p))) := by
  show (asBs _).map (fun bs => RV.fz (.bool (bs.all id))) = _
  rw [asBs_map]
  show some (RV.fz (.bool _)) = _
  rw [List.all_map]
  rfl
theorem asIs_map : ∀ ns : List Int, asIs (ns.map PyData.int) = some ns
  | [] => rfl
  | n :: r => by
    show (asIs (r.map PyData.int)).map (n :: ·) = _
    rw [asIs_map r]; rfl
theorem ev_signs {fe : FE} {ρ ρ1 : PEnv} {pv : PV} {z : Str} (h : fe ρ = .ok (pv, ρ1)) (hz : asStr pv = some z) : iSigns fe ρ = .ok (signsD z, ρ1) := by
  unfold iSigns
  rw [h, Res.bind_ok]
  dsimp only
  rw [hz]
  rfl
noncomputable def ltB (c : Nat) : Bool := decide (97 ≤ c) && decide (c ≤ 122)
theorem le_a (c : Nat) : leS (.str "a") (.str (tx [c])) = some (.fz (.bool (decide (97 ≤ c)))) := by
  show some (RV.fz (.bool (!decide ([c] < ("a" : Str).cps.toList)))) = _
  rw [show ("a" : Str).cps.toList = [97] by decide +kernel]
  congr 3
  rw [← decide_not]
  apply decide_eq_decide.mpr
  rw [List.cons_lt_cons_iff]
  simp
theorem le_z (c : Nat) : leS (.str (tx [c])) (.str "z") = some (.fz (.bool (decide (c ≤ 122)))) := by
  show some (RV.fz (.bool (!decide (("z" : Str).cps.toList < [c])))) = _
  rw [show ("z" : Str).cps.toList = [122] by decide +kernel]
  congr 3
  rw [← decide_not]
  apply decide_eq_decide.mpr
  rw [List.cons_lt_cons_iff]
  simp
theorem is_letter_ok (c : Nat) : F_is_letter [.str (tx [c])] = .ok (.fz (.bool (ltB c))) := by
  have e1 : lenS [.str (tx [c])] = some (.fz (.int 1)) := rfl
  have e2 := le_a c
  have e3 := le_z c
  refine go_val (ρ := [some (.fz (.str (tx [c])))]) rfl ?_
  unfold g_is_letter
  walk_at "go"
  rfl
noncomputable def wdB (l : List Nat) : Bool := (decide ((1 : Int) ≤ (l.length : Int)) && decide ((l.length : Int) ≤ 8)) && l.all ltB
theorem is_word_ok {l : List Nat} (h : l.length ≤ 1000) : F_is_word [.str (tx l)] = .ok (.fz (.bool (wdB l))) := by
  have ln := lenS_tx h
  have cmp : noEr (compP (gN 0) qTrue (pCal F_is_letter 1 (aCons (pVar 0) aNil)) (signsD (tx l)) [none] []) = .ok (l.map fun c => PyData.bool (ltB c)) := by
    rw [signs_tx]
    refine comp_mv l (by omega) rfl fun c _ => ?_
    have e := is_letter_ok c
    exact ev_calb (ev_cons (ev_var rfl) ev_nil) rfl rfl e
  have al := allD_map ltB l
  refine go_val (ρ := [some (.fz (.str (tx l)))]) rfl ?_
  unfold g_is_word
  exact go_ret (ev_pand (a := decide ((1 : Int) ≤ (l.length : Int)) && decide ((l.length : Int) ≤ 8)) (b := l.all ltB) (ev_bool (by walk_at "ev") rfl) fun _ => ev_cbb (ev_cons (ev_comp (ev_signs (ev_var rfl) rfl) rfl cmp) ev_nil) rfl al) rfl rfl
noncomputable def risB (ks : List Int) : Bool := (ks.zip (ks.drop 1)).all fun p => decide (p.1 < p.2)
theorem zip_ints : ∀ a b : List Int, zipD (a.map .int) (b.map .int) = (a.zip b).map fun p => PyData.tuple [.int p.1, .int p.2]
  | [], b => by cases b <;> rfl
  | x :: r, [] => rfl
  | x :: r, y :: t => by
    show PyData.tuple [.int x, .int y] :: zipD (r.map .int) (t.map .int) = _
    rw [zip_ints r t]; rfl
theorem kD_drop1 {ks : List Int} (h : 1 ≤ ks.length) : slD (kD ks) (some 1) none = some (.fz (kD (ks.drop 1))) := by
  have sl1 : HT.sIx ks.length 0 (some 1) = 1 := by have := HT.sIx_nat ks.length 0 1; rw [show ((1 : Nat) : Int) = 1 from rfl] at this; omega
  show (if wholeCut (ks.map PyData.int).length (some 1) none = true then none else some (RV.fz (.tuple (cutD (ks.map PyData.int) (some 1) none)))) = _
  have w : wholeCut (ks.map PyData.int).length (some 1) none = false := by
    unfold wholeCut
    rw [List.length_map, sl1]
    exact decide_eq_false fun z => by cases z.1
  rw [w, if_neg Bool.false_ne_true]
  unfold cutD kD
  rw [List.length_map, sl1, HT.sIx_none, ← List.map_drop, List.take_of_length_le (by rw [List.length_map, List.length_drop]; omega)]
theorem rises_ok {ks : List Int} (h : 1 ≤ ks.length) (h2 : ks.length ≤ 1000) : F_rises [kD ks] = .ok (.fz (.bool (risB ks))) := by
  have esl := kD_drop1 h
  have cmp : noEr (compP (gT 2 (gsC (gN 0) (gsC (gN 1) gsN))) qTrue (pOp ltD (pVar 0) (pVar 1)) (zipD (ks.map .int) ((ks.drop 1).map .int)) [none, none] []) = .ok ((ks.zip (ks.drop 1)).map fun p => PyData.bool (decide (p.1 < p.2))) := by
    rw [zip_ints]
    refine comp_mg (fun ρ => ∃ o p, ρ = [o, p]) _ (by rw [List.length_zip]; omega) ⟨none, none, rfl⟩ ?_
    rintro p hp ρ ⟨o, q, rfl⟩
    exact ⟨_, ct_t rfl rfl (ev_opb (dx := .int p.1) (dy := .int p.2) (ev_var rfl) (ev_var rfl) rfl rfl (tr_ltt _ _)) rfl rfl, _, _, rfl⟩
  have al := allD_map (fun p : Int × Int => decide (p.1 < p.2)) (ks.zip (ks.drop 1))
  refine go_val (ρ := [some (.fz (kD ks))]) rfl ?_
  unfold g_rises
  exact go_ret (ev_cbb (ev_cons (ev_comp (ev_izip (d := kD ks) (e := kD (ks.drop 1)) (ev_cons (ev_var rfl) (ev_cons (ev_sl (rv := .fz (kD (ks.drop 1))) (ev_var rfl) (ev_osome ev_c rfl) ev_onone rfl esl) ev_nil)) rfl rfl rfl) rfl cmp) ev_nil) rfl al) rfl rfl
noncomputable def inB (k : Int) : Bool := decide (0 ≤ k) && decide (k < 12)
noncomputable def stB (ks : List Int) : Bool := decide ((ks.length : Int) ≥ 1) && (risB ks && ks.all inB)
theorem lenK (ks : List Int) : lenD [kD ks] = some (.fz (.int (ks.length : Int))) := by
  show some (RV.fz (.int ((ks.map PyData.int).length : Int))) = _
  rw [List.length_map]
theorem is_stroke_ok {ks : List Int} (h : ks.length ≤ 1000) : F_is_stroke [kD ks] = .ok (.fz (.bool (stB ks))) := by
  have ln := lenK ks
  have cmp : noEr (compP (gN 0) qTrue (pChain leD ltD (pC (.int 0)) (pVar 0) (pC (.int 12))) (ks.map .int) [none] []) = .ok (ks.map fun k => PyData.bool (inB k)) := by
    refine comp_mv ks (by omega) rfl fun k _ => ?_
    exact ev_chain (b1 := decide (0 ≤ k)) (b2 := decide (k < 12)) ev_c (ev_var rfl) ev_c rfl rfl rfl (tr_le _ _) fun _ => tr_ltt _ _
  have al := allD_map inB ks
  refine go_val (ρ := [some (.fz (kD ks))]) rfl ?_
  unfold g_is_stroke
  refine go_ret (ev_pand (a := decide ((ks.length : Int) ≥ 1)) (b := risB ks && ks.all inB) (ev_bool (ev_opb (dx := .int (ks.length : Int)) (dy := .int 1) (ev_cb (rv := .fz (.int (ks.length : Int))) (ev_cons (ev_var rfl) ev_nil) rfl ln) ev_c rfl rfl (tr_ge _ _)) rfl) fun q => ?_) rfl rfl
  have h1 : 1 ≤ ks.length := by have := of_decide_eq_true q; omega
  have er := rises_ok h1 h
  exact ev_pand (a := risB ks) (b := ks.all inB) (ev_bool (ev_calb (ev_cons (ev_var rfl) ev_nil) rfl rfl er) rfl) fun _ => ev_cbb (ev_cons (ev_comp (ev_iseq (d := kD ks) (ev_var rfl) rfl rfl) rfl cmp) ev_nil) rfl al
noncomputable def ssB (ss : List (List Int)) : Bool := (decide ((1 : Int) ≤ (ss.length : Int)) && decide ((ss.length : Int) ≤ 6)) && ss.all stB
theorem are_strokes_ok {ss : List (List Int)} (h : ss.length ≤ 1000) (hk : ∀ ks ∈ ss, ks.length ≤ 1000) : F_are_strokes [.tuple (ss.map kD)] = .ok (.fz (.bool (ssB ss))) := by
  have ln : lenD [.tuple (ss.map kD)] = some (.fz (.int (ss.length : Int))) := by
    show some (RV.fz (.int ((ss.map kD).length : Int))) = _
    rw [List.length_map]
  have cmp : noEr (compP (gN 0) qTrue (pCal F_is_stroke 1 (aCons (pVar 0) aNil)) (ss.map kD) [none] []) = .ok (ss.map fun ks => PyData.bool (stB ks)) := by
    refine comp_mv ss (by omega) rfl fun ks hks => ?_
    have e := is_stroke_ok (hk ks hks)
    exact ev_calb (ev_cons (ev_var rfl) ev_nil) rfl rfl e
  have al := allD_map stB ss
  refine go_val (ρ := [some (.fz (.tuple (ss.map kD)))]) rfl ?_
  unfold g_are_strokes
  exact go_ret (ev_pand (a := decide ((1 : Int) ≤ (ss.length : Int)) && decide ((ss.length : Int) ≤ 6)) (b := ss.all stB) (ev_bool (ev_chain (dy := .int (ss.length : Int)) ev_c (ev_cb (rv := .fz (.int (ss.length : Int))) (ev_cons (ev_var rfl) ev_nil) rfl ln) ev_c rfl rfl rfl (tr_le _ _) fun _ => tr_le _ _) rfl) fun _ => ev_cbb (ev_cons (ev_comp (ev_iseq (d := .tuple (ss.map kD)) (ev_var rfl) rfl rfl) rfl cmp) ev_nil) rfl al) rfl rfl
theorem enum_at : ∀ (l : List D) (k i : Nat) (d : D), (enumFrom k l)[i]? = some d → ∃ x, l[i]? = some x ∧ d = .tuple [nd (k + i), x]
  | [], _, _, _, h => by cases h
  | x :: r, k, 0, d, h => by
    cases h
    exact ⟨x, rfl, rfl⟩
  | x :: r, k, i + 1, d, h => by
    obtain ⟨y, h1, h2⟩ := enum_at r (k + 1) i d h
    exact ⟨y, h1, by rw [h2, show k + 1 + i = k + (i + 1) by omega]⟩
theorem run_er {N : Nat} {g : FS} {ds : List D} {x : Xc} {ρ : PEnv} (hρ : ds.map (fun d => some (.fz d)) ++ List.replicate (N - ds.length) none = ρ) (h : g ρ = .er x) : runF N g ds = .er x := by unfold runF; rw [hρ, h]; rfl
theorem seq_er {f g : FS} {ρ : PEnv} {x : Xc} (h : f ρ = .er x) : sSeq f g ρ = .er x := by unfold sSeq; rw [h]; rfl
theorem raiseF_er {c f : Str} {fe : FE} {ρ ρ1 : PEnv} {pv : PV} {d : D} (he : fe ρ = .ok (pv, ρ1)) (hd : rdD ρ1 pv = some d) (hf : L9.fsD d = true) : L9.sRaiseF c f fe ρ = .er ⟨c, [(f, d)]⟩ := by
  unfold L9.sRaiseF
  rw [he, Res.bind_ok]
  dsimp only
  rw [hd]
  show (if L9.fsD d = true then _ else _) = _
  rw [if_pos hf]
theorem for_er {gt : FG} {b : FS} {x : Xc} (I : Nat → PEnv → Prop) : ∀ (k s : Nat) (ds : List D) (ρ : PEnv), k < ds.length → I s ρ → (∀ i d ρ, i < k → ds[i]? = some d → I (s + i) ρ → ∃ ρ1 ρ2, gt (.fz d) ρ = .ok ρ1 ∧ b ρ1 = .ok (.nx ρ2) ∧ I (s + i + 1) ρ2) →
    (∀ d ρ, ds[k]? = some d → I (s + k) ρ → ∃ ρ1, gt (.fz d) ρ = .ok ρ1 ∧ b ρ1 = .er x) → forP gt b ds ρ = .er x
  | _, _, [], _, hk, _, _, _ => absurd hk (Nat.not_lt_zero _)
  | 0, s, d :: r, ρ, _, h0, _, hx => by
    obtain ⟨ρ1, g1, g2⟩ := hx d ρ rfl h0
    show (gt (.fz d) ρ).bind _ = _
    rw [g1, Res.bind_ok, g2, Res.bind_er]
  | k + 1, s, d :: r, ρ, hk, h0, hs, hx => by
    obtain ⟨ρ1, ρ2, g1, g2, g3⟩ := hs 0 d ρ (by omega) rfl h0
    show (gt (.fz d) ρ).bind _ = _
    rw [g1, Res.bind_ok, g2, Res.bind_ok]
    refine for_er I k (s + 1) r ρ2 (by rw [List.length_cons] at hk; omega) g3 (fun i d' ρ' hi hd hI => ?_) fun d' ρ' hd hI => hx d' ρ' hd (by rw [show s + (k + 1) = s + 1 + k by omega]; exact hI)
    have := hs (i + 1) d' ρ' (by omega) hd (by rw [show s + (i + 1) = s + 1 + i by omega]; exact hI)
    rw [show s + (i + 1) + 1 = s + 1 + i + 1 by omega] at this
    exact this
theorem eqv_str (a b : List Nat) : PyData.eqv (.str (tx a)) (.str (tx b)) = decide (a = b) := by
  show decide (tx a = tx b) = _
  exact decide_eq_decide.mpr ⟨tx_inj, fun h => by rw [h]⟩
theorem lay_txs : ∀ {L : List (List Nat)}, (∀ l ∈ L, ∀ c ∈ l, c < 1114112) → PyData.canLayAll0 (L.map fun l => PyData.str (tx l)) = true
  | [], _ => rfl
  | l :: r, h => by
    show (PyData.strOk (tx l) && PyData.canLayAll0 (r.map fun l => PyData.str (tx l))) = true
    rw [tx_ok (h l List.mem_cons_self), lay_txs fun m hm => h m (List.mem_cons_of_mem _ hm)]; rfl
theorem any_txs (w : List Nat) : ∀ L : List (List Nat), ((L.map fun l => PyData.str (tx l)).any fun e => PyData.eqv e (.str (tx w))) = decide (w ∈ L)
  | [] => rfl
  | l :: r => by
    rw [List.map_cons, List.any_cons, any_txs w r, eqv_str]
    by_cases h : l = w
    · subst h; simp
    · have : ¬ w = l := fun z => h z.symm
      simp [h, this]
theorem in_txs {w : List Nat} {L : List (List Nat)} (hw : ∀ c ∈ w, c < 1114112) (hL : ∀ l ∈ L, ∀ c ∈ l, c < 1114112) : inD (.str (tx w)) (.list (L.map fun l => PyData.str (tx l))) = some (.fz (.bool (decide (w ∈ L)))) := by
  show (if ((PyData.strOk (tx w) && decide (0 ≤ 64)) && PyData.canLayAll0 (L.map fun l => PyData.str (tx l))) = true then some (RV.fz (.bool ((L.map fun l => PyData.str (tx l)).any fun e => PyData.eqv e (.str (tx w))))) else none) = _
  rw [tx_ok hw, lay_txs hL, any_txs]
  rfl
theorem nin_txs {w : List Nat} {L : List (List Nat)} (hw : ∀ c ∈ w, c < 1114112) (hL : ∀ l ∈ L, ∀ c ∈ l, c < 1114112) : ninD (.str (tx w)) (.list (L.map fun l => PyData.str (tx l))) = some (.fz (.bool (!decide (w ∈ L)))) := by
  show (if ((PyData.strOk (tx w) && decide (0 ≤ 64)) && PyData.canLayAll0 (L.map fun l => PyData.str (tx l))) = true then some (RV.fz (.bool (!(L.map fun l => PyData.str (tx l)).any fun e => PyData.eqv e (.str (tx w))))) else none) = _
  rw [tx_ok hw, lay_txs hL, any_txs]
  rfl
noncomputable abbrev w0 : Wd := ([], [])
noncomputable def hasB (B : List Wd) (i : Nat) : Bool := decide ((B.getD i w0).1 ∈ (B.take i).map (·.1))
noncomputable def badB (B : List Wd) (i : Nat) : Bool := hasB B i || (!wdB (B.getD i w0).1 || !ssB (B.getD i w0).2)
theorem bk_at {B : List Wd} {i : Nat} (h : i < B.length) : (B.map wD)[i]? = some (wD (B.getD i w0)) := by
  rw [List.getElem?_map, List.getElem?_eq_getElem h]
  show some (wD B[i]) = some (wD (B.getD i w0))
  rw [List.getD_eq_getElem?_getD, List.getElem?_eq_getElem h]
  rfl
theorem bk_mem {B : List Wd} {i : Nat} (h : i < B.length) : B.getD i w0 ∈ B := by
  rw [List.getD_eq_getElem?_getD, List.getElem?_eq_getElem h]
  exact List.getElem_mem h
theorem bk_cut (B : List Wd) (i : Nat) : slE (bkD B) none (some (i : Int)) = some (.fz (bkD (B.take i))) := by
  show some (RV.fz (.tuple (cutD (B.map wD) none (some (i : Int))))) = _
  unfold cutD bkD
  rw [HT.sIx_none, List.drop_zero, HT.sIx_nat, Nat.sub_zero, List.length_map, List.map_take]
  congr 3
  rw [List.take_eq_take_iff]
  rw [List.length_map]
  omega
theorem names_ok {n : Nat} {B : List Wd} (hF : Fit n B) (i : Nat) : ∀ l ∈ (B.take i).map (·.1), ∀ c ∈ l, c < 1114112 := fun l hl => by
  obtain ⟨e, he, rfl⟩ := List.mem_map.mp hl
  exact (hF.en e (List.mem_of_mem_take he)).wc
section
variable {n : Nat} {B : List Wd}
theorem ahead_ok (hF : Fit n B) (hn : n ≤ 10) {i : Nat} (hi : i < B.length) {t3 : Option PV} :
    (pOp inD (pOp ixD (pVar 2) (pC (.int 0))) (pComp 1 [] (iSeq (pSl slE (pVar 0) oNone (oSome (pVar 1)))) (gN 0) qTrue (pOp ixD (pVar 0) (pC (.int 0))))) [some (.fz (bkD B)), some (.fz (nd i)), some (.fz (wD (B.getD i w0))), t3]
      = .ok (.fz (.bool (hasB B i)), [some (.fz (bkD B)), some (.fz (nd i)), some (.fz (wD (B.getD i w0))), t3]) := by
  have len := hF.len
  have cut := bk_cut B i
  have hw := (hF.en _ (bk_mem hi)).wc
  have hin := in_txs (w := (B.getD i w0).1) hw (names_ok hF i)
  have e0 : ixD (wD (B.getD i w0)) (.int 0) = some (.fz (.str (tx (B.getD i w0).1))) := ixt0
  have hh : hasB B i = decide ((B.getD i w0).1 ∈ (B.take i).map (·.1)) := rfl
  rw [← hh] at hin
  clear hh
  generalize hasB B i = hb at *
  generalize B.getD i w0 = e at *
  have cmp : noEr (compP (gN 0) qTrue (pOp ixD (pVar 0) (pC (.int 0))) ((B.take i).map wD) [none] []) = .ok (((B.take i).map (·.1)).map fun l => PyData.str (tx l)) := by
    rw [List.map_map]
    refine comp_mv (B.take i) (by rw [List.length_take]; omega) rfl fun e _ => ?_
    exact ev_op (rv := .fz (.str (tx e.1))) (ev_var rfl) ev_c rfl rfl ixt0
  exact ev_opb (dx := .str (tx e.1)) (dy := .list (((B.take i).map (·.1)).map fun l => PyData.str (tx l))) (ev_op (rv := .fz (.str (tx e.1))) (ev_var rfl) ev_c rfl rfl e0) (ev_comp (ev_iseq (d := bkD (B.take i)) (ev_sl (rv := .fz (bkD (B.take i))) (ev_var rfl) ev_onone (ev_osome (ev_var rfl) rfl) rfl cut) rfl rfl) rfl cmp) rfl rfl hin
theorem cond_ok (hF : Fit n B) (hn : n ≤ 10) {i : Nat} (hi : i < B.length) :
    (qOr (pBool (pVar 3)) (qOr (qNot (pBool (pCal F_is_word 1 (aCons (pOp ixD (pVar 2) (pC (.int 0))) aNil)))) (qNot (pBool (pCal F_are_strokes 1 (aCons (pOp ixD (pVar 2) (pC (.int 1))) aNil)))))) [some (.fz (bkD B)), some (.fz (nd i)), some (.fz (wD (B.getD i w0))), some (.fz (.bool (hasB B i)))]
      = .ok (badB B i, [some (.fz (bkD B)), some (.fz (nd i)), some (.fz (wD (B.getD i w0))), some (.fz (.bool (hasB B i)))]) := by
  have fe := hF.en _ (bk_mem hi)
  have iw := is_word_ok (l := (B.getD i w0).1) (by have := fe.wl; omega)
  have as := are_strokes_ok (ss := (B.getD i w0).2) (by have := fe.sl; omega) fun ks hks => by have := fe.kl ks hks; omega
  unfold badB
  have e0 : ixD (wD (B.getD i w0)) (.int 0) = some (.fz (.str (tx (B.getD i w0).1))) := ixt0
  have e1 : ixD (wD (B.getD i w0)) (.int 1) = some (.fz (.tuple ((B.getD i w0).2.map kD))) := ixt1
  generalize B.getD i w0 = e at *
  generalize hasB B i = hb
  exact ev_qor (ev_bool (ev_var rfl) rfl) fun _ => ev_qor (ev_qnot (ev_bool (ev_calb (ev_cons (ev_op (rv := .fz (.str (tx e.1))) (ev_var rfl) ev_c rfl rfl e0) ev_nil) rfl rfl iw) rfl)) fun _ => ev_qnot (ev_bool (ev_calb (ev_cons (ev_op (rv := .fz (.tuple (e.2.map kD))) (ev_var rfl) ev_c rfl rfl e1) ev_nil) rfl rfl as) rfl)
theorem enum_cell {i : Nat} {d : D} (hi : (enumFrom 0 (B.map wD))[i]? = some d) : i < B.length ∧ d = .tuple [nd i, wD (B.getD i w0)] := by
  obtain ⟨x, hx, rfl⟩ := enum_at _ _ _ _ hi
  have hiL : i < B.length := by
    obtain ⟨z, _⟩ := List.getElem?_eq_some_iff.mp hx
    rw [List.length_map] at z
    exact z
  rw [bk_at hiL] at hx
  cases hx
  rw [Nat.zero_add]
  exact ⟨hiL, rfl⟩
noncomputable abbrev okL (B : List Wd) : Bool := decide ((1 : Int) ≤ (B.length : Int)) && decide ((B.length : Int) ≤ 20)
theorem lenB (B : List Wd) : lenD [bkD B] = some (.fz (.int (B.length : Int))) := by
  show some (RV.fz (.int ((B.map wD).length : Int))) = _
  rw [List.length_map]
theorem c1_ok {t1 t2 t3 : Option PV} : (qNot (pBool (pChain leD leD (pC (.int 1)) (pCB lenD (aCons (pVar 0) aNil)) (pC (.int 20))))) [some (.fz (bkD B)), t1, t2, t3] = .ok (!okL B, [some (.fz (bkD B)), t1, t2, t3]) := by
  have ln := lenB B
  exact ev_qnot (ev_bool (ev_chain (b1 := decide ((1 : Int) ≤ (B.length : Int))) (b2 := decide ((B.length : Int) ≤ 20)) (dy := .int (B.length : Int)) ev_c (ev_cb (rv := .fz (.int (B.length : Int))) (ev_cons (ev_var rfl) ev_nil) rfl ln) ev_c rfl rfl rfl (tr_le _ _) fun _ => tr_le _ _) rfl)
theorem checkedN (h : okL B = false) : F_checked_bookR [bkD B] = .er ⟨"NoBook", [("place", .none)]⟩ := by
  have c1 := c1_ok (B := B) (t1 := none) (t2 := none) (t3 := none)
  rw [h] at c1
  refine run_er (ρ := [some (.fz (bkD B)), none, none, none]) rfl ?_
  unfold g_checked_bookR
  exact seq_er ((if_t c1).trans (raiseF_er ev_c rfl rfl))
theorem fs_nd {i : Nat} (h : i ≤ 1000) : L9.fsD (nd i) = true := by
  show decide (((i : Nat) : Int).natAbs.log2 < 1920) = true
  refine decide_eq_true ?_
  rw [Int.natAbs_natCast]
  exact Nat.lt_of_le_of_lt (Nat.log2_le_self i) (by omega)
theorem checkedX (hF : Fit n B) (hn : n ≤ 10) (h : okL B = true) {k : Nat} (hk : k < B.length) (hB : ∀ j, j < k → badB B j = false) (hb : badB B k = true) : F_checked_bookR [bkD B] = .er ⟨"NoBook", [("place", nd k)]⟩ := by
  have len := hF.len
  have c1 := c1_ok (B := B) (t1 := none) (t2 := none) (t3 := none)
  rw [h] at c1
  refine run_er (ρ := [some (.fz (bkD B)), none, none, none]) rfl ?_
  unfold g_checked_bookR
  refine (seq_nx ((if_f c1).trans rfl)).trans (seq_er ((for_of (ds := enumFrom 0 (B.map wD)) (ρ1 := [some (.fz (bkD B)), none, none, none]) (ev_ienum (d := bkD B) (ev_cons (ev_var rfl) ev_nil) rfl rfl)).trans ?_))
  refine for_er (fun i ρ => ∃ t1 t2 t3, ρ = [some (.fz (bkD B)), t1, t2, t3]) k 0 _ _ (by rw [enumFrom_len, List.length_map]; exact hk) ⟨none, none, none, rfl⟩ ?_ ?_
  · rintro i d ρ hi hd ⟨t1, t2, t3, rfl⟩
    obtain ⟨hiL, rfl⟩ := enum_cell hd
    have ah := ahead_ok hF hn hiL (t3 := t3)
    have co := cond_ok hF hn hiL
    rw [hB i hi] at co
    exact ⟨_, _, rfl, (seq_nx (st_asg ah rfl rfl)).trans ((if_f co).trans rfl), _, _, _, rfl⟩
  · rintro d ρ hd ⟨t1, t2, t3, rfl⟩
    obtain ⟨hiL, rfl⟩ := enum_cell hd
    have ah := ahead_ok hF hn hiL (t3 := t3)
    have co := cond_ok hF hn hiL
    rw [hb] at co
    exact ⟨_, rfl, (seq_nx (st_asg ah rfl rfl)).trans ((if_t co).trans (raiseF_er (ev_var rfl) rfl (fs_nd (by omega))))⟩
theorem checkedG (hF : Fit n B) (hn : n ≤ 10) (h : okL B = true) (hB : ∀ j, j < B.length → badB B j = false) : F_checked_bookR [bkD B] = .ok (.fz (bkD B)) := by
  have c1 := c1_ok (B := B) (t1 := none) (t2 := none) (t3 := none)
  rw [h] at c1
  refine go_val (ρ := [some (.fz (bkD B)), none, none, none]) rfl ?_
  unfold g_checked_bookR
  refine gs_if c1 (fun q => by cases q) fun _ => gs_next ?_
  refine gs_for (fun i ρ => ∃ t1 t2 t3, ρ = [some (.fz (bkD B)), t1, t2, t3]) (ds := enumFrom 0 (B.map wD)) (ρ1 := [some (.fz (bkD B)), none, none, none]) (ev_ienum (d := bkD B) (ev_cons (ev_var rfl) ev_nil) rfl rfl) ⟨none, none, none, rfl⟩ ?_ ?_
  · rintro i d ρ hd ⟨t1, t2, t3, rfl⟩
    obtain ⟨hiL, rfl⟩ := enum_cell hd
    have ah := ahead_ok hF hn hiL (t3 := t3)
    have co := cond_ok hF hn hiL
    rw [hB i hiL] at co
    exact ⟨_, rfl, gs_asg (ρ3 := [some (.fz (bkD B)), some (.fz (nd i)), some (.fz (wD (B.getD i w0))), some (.fz (.bool (hasB B i)))]) ah rfl rfl (go_if co (fun q => by cases q) fun _ => go_next ⟨_, _, _, rfl⟩)⟩
  · rintro ρ ⟨t1, t2, t3, rfl⟩
    exact go_ret (ev_var rfl) rfl rfl
end
theorem dd_le : ∀ (l acc : List Int), (l.foldl PyProof.Rows.step_dedup acc).length ≤ acc.length + l.length
  | [], acc => Nat.le_refl _
  | x :: r, acc => by
    rw [List.foldl_cons]
    have h := dd_le r (PyProof.Rows.step_dedup acc x)
    have h2 : (PyProof.Rows.step_dedup acc x).length ≤ acc.length + 1 := by
      unfold PyProof.Rows.step_dedup
      split
      · omega
      · rw [List.length_append, List.length_singleton]; exact Nat.le_refl _
    rw [List.length_cons]
    omega
theorem dd_nodup : ∀ (l acc : List Int), (l.foldl PyProof.Rows.step_dedup acc).length = acc.length + l.length → l.Nodup ∧ ∀ x ∈ l, x ∉ acc
  | [], acc, _ => ⟨List.nodup_nil, fun x h => by cases h⟩
  | x :: r, acc, h => by
    rw [List.foldl_cons] at h
    by_cases q : acc.any (· == x) = true
    · have e : PyProof.Rows.step_dedup acc x = acc := by unfold PyProof.Rows.step_dedup; rw [if_pos q]
      rw [e, List.length_cons] at h
      have := dd_le r acc
      omega
    · have e : PyProof.Rows.step_dedup acc x = acc ++ [x] := by unfold PyProof.Rows.step_dedup; rw [if_neg q]
      rw [e, List.length_cons] at h
      obtain ⟨h1, h2⟩ := dd_nodup r (acc ++ [x]) (by rw [List.length_append, List.length_singleton]; omega)
      have hx : x ∉ acc := fun z => q (List.any_eq_true.mpr ⟨x, z, beq_self_eq_true x⟩)
      refine ⟨List.nodup_cons.mpr ⟨fun z => h2 x z (List.mem_append_right _ List.mem_cons_self), h1⟩, fun y hy => ?_⟩
      rcases List.mem_cons.mp hy with rfl | hy
      · exact hx
      · exact fun z => h2 y hy (List.mem_append_left _ z)
theorem dd_of_nodup : ∀ (l acc : List Int), l.Nodup → (∀ x ∈ l, x ∉ acc) → (l.foldl PyProof.Rows.step_dedup acc).length = acc.length + l.length
  | [], acc, _, _ => rfl
  | x :: r, acc, h, hd => by
    obtain ⟨h1, h2⟩ := List.nodup_cons.mp h
    have hx := hd x List.mem_cons_self
    have e : PyProof.Rows.step_dedup acc x = acc ++ [x] := by
      unfold PyProof.Rows.step_dedup
      rw [if_neg fun z => ?_]
      obtain ⟨y, hy, e⟩ := List.any_eq_true.mp z
      rw [eq_of_beq e] at hy
      exact hx hy
    rw [List.foldl_cons, e, dd_of_nodup r _ h2 fun y hy z => ?_, List.length_append, List.length_singleton, List.length_cons]
    · omega
    · rcases List.mem_append.mp z with z | z
      · exact hd y (List.mem_cons_of_mem _ hy) z
      · rw [List.mem_singleton.mp z] at hy; exact h1 hy
theorem ddI_le (ks : List Int) : L9.ddI ks ≤ ks.length := by have := dd_le ks []; unfold L9.ddI; simpa using this
theorem ddI_iff (ks : List Int) : L9.ddI ks = ks.length ↔ ks.Nodup := by
  unfold L9.ddI
  constructor
  · exact fun h => (dd_nodup ks [] (by simpa using h)).1
  · exact fun h => by simpa using dd_of_nodup ks [] h fun _ _ z => by cases z
theorem risB_iff : ∀ ks : List Int, risB ks = true ↔ ks.Pairwise (· < ·)
  | [] => by simp [risB]
  | [a] => by simp [risB]
  | a :: b :: r => by
    have ih := risB_iff (b :: r)
    have e : risB (a :: b :: r) = (decide (a < b) && risB (b :: r)) := rfl
    rw [e, Bool.and_eq_true, decide_eq_true_iff, ih]
    constructor
    · rintro ⟨h1, h2⟩
      refine List.pairwise_cons.mpr ⟨fun x hx => ?_, h2⟩
      rcases List.mem_cons.mp hx with rfl | hx
      · exact h1
      · exact Int.lt_trans h1 ((List.pairwise_cons.mp h2).1 x hx)
    · exact fun h => have z := List.pairwise_cons.mp h; ⟨z.1 b List.mem_cons_self, z.2⟩
theorem pw_lt {ks : List Int} (h1 : ks.Pairwise (· ≤ ·)) (h2 : ks.Nodup) : ks.Pairwise (· < ·) := (h1.and h2).imp fun ⟨a, b⟩ => by omega
theorem pw_last : ∀ {ks : List Int} (hne : ks ≠ []), ks.Pairwise (· ≤ ·) → ∀ x ∈ ks, x ≤ ks.getLast hne
  | [a], _, _, x, hx => by rw [List.mem_singleton.mp hx]; exact Int.le_refl _
  | a :: b :: r, _, h, x, hx => by
    rw [List.getLast_cons (List.cons_ne_nil b r)]
    obtain ⟨h1, h2⟩ := List.pairwise_cons.mp h
    rcases List.mem_cons.mp hx with rfl | hx
    · exact Int.le_trans (h1 b List.mem_cons_self) (pw_last (List.cons_ne_nil b r) h2 b List.mem_cons_self)
    · exact pw_last (List.cons_ne_nil b r) h2 x hx
noncomputable def lkB (a : Int) (r : List Int) : Bool := decide (a < 0) || (decide ((a :: r).getLast (List.cons_ne_nil a r) > 11) || (!decide ((a :: r) = sortI (a :: r)) || decide ((L9.ddI (a :: r) : Int) < ((a :: r).length : Int))))
theorem stroke_eq (a : Int) (r : List Int) : lkB a r = !stB (a :: r) := by
  have key : lkB a r = false ↔ stB (a :: r) = true := by
    unfold lkB stB
    rw [Bool.or_eq_false_iff, Bool.or_eq_false_iff, Bool.or_eq_false_iff, decide_eq_false_iff_not, decide_eq_false_iff_not, decide_eq_false_iff_not, Bool.not_eq_false', decide_eq_true_iff, Bool.and_eq_true, Bool.and_eq_true, decide_eq_true_iff, risB_iff, List.all_eq_true]
    have dl := ddI_le (a :: r)
    constructor
    · rintro ⟨h1, h2, h3, h4⟩
      have hs : (a :: r).Pairwise (· ≤ ·) := h3 ▸ sortI_sorted (a :: r)
      have hd : (a :: r).Nodup := (ddI_iff _).mp (by omega)
      refine ⟨by rw [List.length_cons]; omega, pw_lt hs hd, fun x hx => ?_⟩
      have hl := pw_last (List.cons_ne_nil a r) hs x hx
      have h0 : a ≤ x := by
        rcases List.mem_cons.mp hx with rfl | hx
        · exact Int.le_refl _
        · exact (List.pairwise_cons.mp hs).1 x hx
      unfold inB
      rw [decide_eq_true (show 0 ≤ x by omega), decide_eq_true (show x < 12 by omega)]; rfl
    · rintro ⟨_, hp, ha⟩
      have hs : (a :: r).Pairwise (· ≤ ·) := hp.imp fun h => Int.le_of_lt h
      have hd : (a :: r).Nodup := hp.imp fun h => Int.ne_of_lt h
      have hi : ∀ x ∈ a :: r, 0 ≤ x ∧ x < 12 := fun x hx => by
        have := ha x hx
        unfold inB at this
        rw [Bool.and_eq_true, decide_eq_true_iff, decide_eq_true_iff] at this
        exact this
      have e := (ddI_iff (a :: r)).mpr hd
      refine ⟨by have := hi a List.mem_cons_self; omega, by have := hi _ (List.getLast_mem (List.cons_ne_nil a r)); omega, sorted_eq (sortI_perm _).symm hs (sortI_sorted _), by omega⟩
  cases h : stB (a :: r) with
  | true => exact key.mpr h
  | false =>
    cases h2 : lkB a r with
    | true => rfl
    | false => rw [key.mp h2] at h; cases h
theorem okI : ∀ ks : List Int, PyData.canLayAll0 (ks.map PyData.int) = true
  | [] => rfl
  | k :: r => by show (true && PyData.canLayAll0 (r.map PyData.int)) = true; rw [okI r]; rfl
theorem depI : ∀ ks : List Int, PyData.depthAll (ks.map PyData.int) = 0
  | [] => rfl
  | k :: r => by show max 0 (PyData.depthAll (r.map PyData.int)) = 0; rw [depI r]; rfl
theorem eqvI : ∀ a b : List Int, PyData.eqvAll (a.map PyData.int) (b.map PyData.int) = decide (a = b)
  | [], [] => rfl
  | [], _ :: _ => rfl
  | _ :: _, [] => rfl
  | x :: r, y :: t => by
    show (decide (x = y) && PyData.eqvAll (r.map PyData.int) (t.map PyData.int)) = _
    rw [eqvI r t]
    by_cases h : x = y <;> by_cases g : r = t <;> simp [h, g]
theorem neD_ints (a b : List Int) : neD (.list (a.map .int)) (.list (b.map .int)) = some (.fz (.bool (!decide (a = b)))) := by
  unfold neD
  have h1 : okD (.list (a.map PyData.int)) = true := by
    show (PyData.canLayAll0 (a.map PyData.int) && decide (PyData.depthAll (a.map PyData.int) + 1 ≤ 64)) = true
    rw [okI, depI]; rfl
  rw [h1, show PyData.canLay0 (.list (b.map PyData.int)) = true from okI b, Bool.and_self, if_pos rfl, show PyData.eqv (.list (a.map PyData.int)) (.list (b.map PyData.int)) = _ from eqvI a b]
noncomputable abbrev gSt : FT := (qOr (pBool (pOp eqD (pCB lenD (aCons (pVar 4) aNil)) (pC (.int 0)))) (qOr (pBool (pOp ltD (pOp ixD (pVar 4) (pC (.int 0))) (pC (.int 0)))) (qOr (pBool (pOp gtD (pOp ixD (pVar 4) (pUn negD (pC (.int 1)))) (pC (.int 11)))) (qOr (pBool (pOp neD (pCB lstD (aCons (pVar 4) aNil)) (pCB L9.sortedE (aCons (pVar 4) aNil)))) (pBool (pOp ltD (L9.pLenSet (aCons (pVar 4) aNil)) (pCB lenD (aCons (pVar 4) aNil))))))))
theorem ix_last (a : Int) (r : List Int) : ixD (kD (a :: r)) (.int (-1)) = some (.fz (.int ((a :: r).getLast (List.cons_ne_nil a r)))) := by
  have e : (a :: r).map PyData.int = (a :: r).dropLast.map PyData.int ++ [.int ((a :: r).getLast (List.cons_ne_nil a r))] := by
    conv => lhs; rw [← List.dropLast_concat_getLast (List.cons_ne_nil a r)]
    rw [List.map_append]; rfl
  show (atI ((a :: r).map PyData.int) (-1)).map RV.fz = _
  rw [e, atI_last]; rfl
theorem stroke_ok {ks : List Int} (h : ks.length ≤ 12) {x0 x1 x2 x3 : Option PV} : gSt [x0, x1, x2, x3, some (.fz (kD ks))] = .ok (!stB ks, [x0, x1, x2, x3, some (.fz (kD ks))]) := by
  have ln := lenK ks
  cases ks with
  | nil =>
    have z : (true || true) = !stB [] := rfl
    rw [← z]
    exact ev_qor (ev_bool (ev_opb (dx := .int 0) (dy := .int 0) (ev_cb (rv := .fz (.int 0)) (ev_cons (ev_var rfl) ev_nil) rfl ln) ev_c rfl rfl (eqD_int 0 0)) rfl) fun q => by cases q
  | cons a r =>
    rw [← stroke_eq]
    have z : lkB a r = (false || lkB a r) := rfl
    rw [z]
    unfold lkB
    have e0 : ixD (kD (a :: r)) (.int 0) = some (.fz (.int a)) := ixt0
    have e1 := ix_last a r
    have srt : L9.sortedE [kD (a :: r)] = some (.ow ((sortI (a :: r)).map .int)) := by
      show (match asIs ((a :: r).map PyData.int) with
        | some ns => if ns.length < 64 then some (RV.ow ((sortI ns).map .int)) else none
        | none => none) = _
      rw [asIs_map]
      dsimp only
      rw [if_pos (by omega)]
    have lst : lstD [kD (a :: r)] = some (.ow ((a :: r).map .int)) := rfl
    have nel := neD_ints (a :: r) (sortI (a :: r))
    have dd : L9.setLenD [kD (a :: r)] = some (.fz (.int (L9.ddI (a :: r) : Int))) := by
      show (match asIs ((a :: r).map PyData.int) with
        | some ns => if ns.length ≤ 1000 then some (RV.fz (.int (L9.ddI ns))) else none
        | none => none) = _
      rw [asIs_map]
      dsimp only
      rw [if_pos (by omega)]
    have hne : decide (((a :: r).length : Int) = 0) = false := decide_eq_false (by rw [List.length_cons]; omega)
    generalize (a :: r).getLast (List.cons_ne_nil a r) = la at *
    generalize (sortI (a :: r)) = so at *
    generalize L9.ddI (a :: r) = di at *
    generalize ((a :: r).length : Int) = ll at *
    generalize (a :: r) = ks at *
    refine ev_qor (a := false) (ev_bool (b := false) (ev_opb (dx := .int ll) (dy := .int 0) (ev_cb (rv := .fz (.int ll)) (ev_cons (ev_var rfl) ev_nil) rfl ln) ev_c rfl rfl ((eqD_int ll 0).trans (by rw [hne]))) rfl) fun _ => ?_
    refine ev_qor (ev_bool (ev_opb (dx := .int a) (dy := .int 0) (ev_op (rv := .fz (.int a)) (ev_var rfl) ev_c rfl rfl e0) ev_c rfl rfl (tr_ltt _ _)) rfl) fun _ => ?_
    refine ev_qor (ev_bool (ev_opb (dx := .int la) (dy := .int 11) (ev_op (rv := .fz (.int la)) (ev_var rfl) (ev_un (rv := .fz (.int (-1))) ev_c rfl rfl) rfl rfl e1) ev_c rfl rfl (tr_gt _ _)) rfl) fun _ => ?_
    refine ev_qor (ev_bool (ev_opb (dx := .list (ks.map .int)) (dy := .list (so.map .int)) (ev_cb (rv := .ow (ks.map .int)) (ev_cons (ev_var rfl) ev_nil) rfl lst) (ev_cb (rv := .ow (so.map .int)) (ev_cons (ev_var rfl) ev_nil) rfl srt) rfl rfl nel) rfl) fun _ => ?_
    exact ev_bool (ev_opb (dx := .int (di : Int)) (dy := .int ll) (L9.ev_lenSet (rv := .fz (.int (di : Int))) (ev_cons (ev_var rfl) ev_nil) rfl dd) (ev_cb (rv := .fz (.int ll)) (ev_cons (ev_var rfl) ev_nil) rfl ln) rfl rfl (tr_ltt _ _)) rfl
theorem ev_inRb {neg : Bool} {fa : FE} {fl : FA} {ρ ρ1 ρ2 : PEnv} {p : PV} {ps : List PV} {i lo hi : Int} (ha : fa ρ = .ok (p, ρ1)) (hl : fl ρ1 = .ok (ps, ρ2)) (hd : rdD ρ2 (settle p) = some (.int i)) (he : rdDs ρ2 ps = some [.int lo, .int hi]) : L9.pInR neg fa fl ρ = .ok (.fz (.bool (if neg then !decide (lo ≤ i ∧ i < hi) else decide (lo ≤ i ∧ i < hi))), ρ2) := L9.ev_inR (rv := .fz (.bool _)) ha hl hd he rfl
theorem rngB (n a : Int) : (!decide (1 ≤ n ∧ n < a + 1)) = !(decide (1 ≤ n) && decide (n ≤ a)) := by
  congr 1
  rw [← Bool.decide_and]
  apply decide_eq_decide.mpr
  omega
section
variable {n : Nat} {B : List Wd}
theorem good_ok (hF : Fit n B) (hn : n ≤ 10) {i : Nat} (hi : i < B.length) : F__law_good [bkD B, nd i] = .ok (.fz (.bool (!badB B i))) := by
  have len := hF.len
  have fe := hF.en _ (bk_mem hi)
  have ix : ixD (bkD B) (nd i) = some (.fz (wD (B.getD i w0))) := ixT (bk_at hi)
  have cut := bk_cut B i
  have hin := in_txs (w := (B.getD i w0).1) fe.wc (names_ok hF i)
  have cmp : noEr (compP (gT 2 (gsC (gN 0) (gsC (gN 1) gsN))) qTrue (pVar 0) ((B.take i).map wD) [none, none] []) = .ok (((B.take i).map (·.1)).map fun l => PyData.str (tx l)) := by
    rw [List.map_map]
    refine comp_mg (fun ρ => ∃ o p, ρ = [o, p]) (B.take i) (by rw [List.length_take]; omega) ⟨none, none, rfl⟩ ?_
    rintro e _ ρ ⟨o, p, rfl⟩
    exact ⟨_, ct_t rfl rfl (ev_var rfl) rfl rfl, _, _, rfl⟩
  have lnw := lenS_tx (l := (B.getD i w0).1) (by have := fe.wl; omega)
  have lns : lenD [.tuple ((B.getD i w0).2.map kD)] = some (.fz (.int ((B.getD i w0).2.length : Int))) := by
    show some (RV.fz (.int (((B.getD i w0).2.map kD).length : Int))) = _
    rw [List.length_map]
  have bad : badB B i = (hasB B i || (!wdB (B.getD i w0).1 || !ssB (B.getD i w0).2)) := rfl
  have hh : hasB B i = decide ((B.getD i w0).1 ∈ (B.take i).map (·.1)) := rfl
  rw [← hh] at hin
  have wl := fe.wl
  have kl := fe.kl
  obtain ⟨w, ss, hws⟩ : ∃ w ss, B.getD i w0 = (w, ss) := ⟨_, _, rfl⟩
  rw [hws] at ix hin lnw lns bad wl kl
  dsimp only at hin lnw lns bad wl kl
  have cmw : noEr (compP (gN 0) qTrue (pChain leS leS (pC (.str "a")) (pVar 0) (pC (.str "z"))) (signsD (tx w)) [none] []) = .ok (w.map fun c => PyData.bool (ltB c)) := by
    rw [signs_tx]
    refine comp_mv w (by omega) rfl fun c _ => ?_
    exact ev_chain (b1 := decide (97 ≤ c)) (b2 := decide (c ≤ 122)) ev_c (ev_var rfl) ev_c rfl rfl rfl (le_a c) fun _ => le_z c
  have alw := allD_map ltB w
  generalize badB B i = bb at *
  generalize hasB B i = hb at *
  generalize ((B.take i).map (·.1)).map (fun l => PyData.str (tx l)) = nms at *
  refine go_val (ρ := [some (.fz (bkD B)), some (.fz (nd i)), none, none, none]) rfl ?_
  unfold g__law_good
  refine gs_asg (pv := .fz (wD (w, ss))) (ρ3 := [some (.fz (bkD B)), some (.fz (nd i)), some (.fz (.str (tx w))), some (.fz (.tuple (ss.map kD))), none]) (ev_op (rv := .fz (wD (w, ss))) (ev_var rfl) (ev_var rfl) rfl rfl ix) rfl rfl ?_
  have q1 : (qOr (pBool (L9.pInR true (pCB lenS (aCons (pVar 2) aNil)) (aCons (pC (.int 1)) (aCons (pC (.int 9)) aNil)))) (qNot (pBool (pCB allD (aCons (pComp 1 [] (iSigns (pVar 2)) (gN 0) qTrue (pChain leS leS (pC (.str "a")) (pVar 0) (pC (.str "z")))) aNil))))) [some (.fz (bkD B)), some (.fz (nd i)), some (.fz (.str (tx w))), some (.fz (.tuple (ss.map kD))), none]
      = .ok (!wdB w, [some (.fz (bkD B)), some (.fz (nd i)), some (.fz (.str (tx w))), some (.fz (.tuple (ss.map kD))), none]) := by
    have e : (!wdB w) = (!decide (1 ≤ (w.length : Int) ∧ (w.length : Int) < 9) || !w.all ltB) := by
      rw [show (9 : Int) = 8 + 1 from rfl, rngB]
      unfold wdB
      rw [Bool.not_and]
    rw [e]
    exact ev_qor (ev_bool (ev_inRb (i := (w.length : Int)) (ev_cb (rv := .fz (.int (w.length : Int))) (ev_cons (ev_var rfl) ev_nil) rfl lnw) (ev_cons ev_c (ev_cons ev_c ev_nil)) rfl rfl) rfl) fun _ => ev_qnot (ev_bool (ev_cbb (ev_cons (ev_comp (ev_signs (ev_var rfl) rfl) rfl cmw) ev_nil) rfl alw) rfl)
  refine gs_if q1 (fun q => ?_) fun q => gs_next ?_
  · rw [Bool.not_eq_true'] at q
    refine gs_ret (pv := .fz (.bool false)) (rv := .fz (.bool false)) ev_c rfl ?_
    rw [bad, q]; cases hb <;> rfl
  rw [Bool.not_eq_false'] at q
  rw [q] at bad
  have q2 : (qOr (pBool (pOp inD (pVar 2) (pComp 2 [] (iSeq (pSl slE (pVar 0) oNone (oSome (pVar 1)))) (gT 2 (gsC (gN 0) (gsC (gN 1) gsN))) qTrue (pVar 0)))) (pBool (L9.pInR true (pCB lenD (aCons (pVar 3) aNil)) (aCons (pC (.int 1)) (aCons (pC (.int 7)) aNil))))) [some (.fz (bkD B)), some (.fz (nd i)), some (.fz (.str (tx w))), some (.fz (.tuple (ss.map kD))), none]
      = .ok (hb || !(decide ((1 : Int) ≤ (ss.length : Int)) && decide ((ss.length : Int) ≤ 6)), [some (.fz (bkD B)), some (.fz (nd i)), some (.fz (.str (tx w))), some (.fz (.tuple (ss.map kD))), none]) := by
    rw [← rngB, show (6 : Int) + 1 = 7 from rfl]
    exact ev_qor (ev_bool (ev_opb (dx := .str (tx w)) (dy := .list nms) (ev_var rfl) (ev_comp (ev_iseq (d := bkD (B.take i)) (ev_sl (rv := .fz (bkD (B.take i))) (ev_var rfl) ev_onone (ev_osome (ev_var rfl) rfl) rfl cut) rfl rfl) rfl cmp) rfl rfl hin) rfl) fun _ => ev_bool (ev_inRb (i := (ss.length : Int)) (ev_cb (rv := .fz (.int (ss.length : Int))) (ev_cons (ev_var rfl) ev_nil) rfl lns) (ev_cons ev_c (ev_cons ev_c ev_nil)) rfl rfl) rfl
  have hss : ssB ss = ((decide ((1 : Int) ≤ (ss.length : Int)) && decide ((ss.length : Int) ≤ 6)) && ss.all stB) := rfl
  generalize (decide ((1 : Int) ≤ (ss.length : Int)) && decide ((ss.length : Int) ≤ 6)) = rn at *
  refine gs_if q2 (fun q => ?_) fun q => gs_next ?_
  · refine gs_ret (pv := .fz (.bool false)) (rv := .fz (.bool false)) ev_c rfl ?_
    rw [bad, hss]
    cases hb <;> cases rn <;> first | rfl | (cases q)
  have bad2 : bb = !ss.all stB := by
    rw [bad, hss]
    cases hb <;> cases rn <;> first | rfl | (cases q)
  refine gs_for (fun j ρ => (∃ t4, ρ = [some (.fz (bkD B)), some (.fz (nd i)), some (.fz (.str (tx w))), some (.fz (.tuple (ss.map kD))), t4]) ∧ ∀ ks ∈ ss.take j, stB ks = true) (ds := ss.map kD) (ρ1 := [some (.fz (bkD B)), some (.fz (nd i)), some (.fz (.str (tx w))), some (.fz (.tuple (ss.map kD))), none]) (ev_iseq (d := .tuple (ss.map kD)) (ev_var rfl) rfl rfl) ⟨⟨none, rfl⟩, fun ks h => by cases h⟩ ?_ ?_
  · rintro j d ρ hj ⟨⟨t4, rfl⟩, hg⟩
    rw [List.getElem?_map] at hj
    cases qj : ss[j]? with
    | none => rw [qj] at hj; cases hj
    | some ks =>
      rw [qj] at hj
      cases hj
      have so := stroke_ok (kl ks (List.mem_of_getElem? qj)) (x0 := some (.fz (bkD B))) (x1 := some (.fz (nd i))) (x2 := some (.fz (.str (tx w)))) (x3 := some (.fz (.tuple (ss.map kD))))
      refine ⟨_, rfl, go_if so (fun z => ?_) fun z => go_next ⟨⟨_, rfl⟩, fun k2 hk2 => ?_⟩⟩
      · refine go_ret (pv := .fz (.bool false)) (rv := .fz (.bool false)) ev_c rfl ?_
        rw [bad2]
        rw [Bool.not_eq_true'] at z
        have : ss.all stB = false := by
          cases y : ss.all stB with
          | false => rfl
          | true => rw [List.all_eq_true.mp y ks (List.mem_of_getElem? qj)] at z; cases z
        rw [this]; rfl
      · rw [List.take_succ, qj] at hk2
        rcases List.mem_append.mp hk2 with y | y
        · exact hg k2 y
        · rw [show k2 = ks from List.mem_singleton.mp y]
          rw [Bool.not_eq_false'] at z
          exact z
  · rintro ρ ⟨⟨t4, rfl⟩, hg⟩
    refine go_ret (pv := .fz (.bool true)) (rv := .fz (.bool true)) ev_c rfl ?_
    have : ss.all stB = true := List.all_eq_true.mpr fun ks hks => hg ks (by rw [List.length_map, List.take_length]; exact hks)
    rw [bad2, this]; rfl
noncomputable def fstBad (B : List Wd) : Option Nat := (List.range B.length).find? fun i => badB B i
noncomputable def dueD (B : List Wd) : D := if okL B = true then (match fstBad B with | some i => .tuple [nd i] | none => .none) else .tuple [.none]
theorem due_ok (hF : Fit n B) (hn : n ≤ 10) : F__law_due [bkD B] = .ok (.fz (dueD B)) := by
  have len := hF.len
  have ln := lenB B
  have rn := rng1_nd (n := B.length) (by omega)
  refine go_val (ρ := [some (.fz (bkD B)), none]) rfl ?_
  unfold g__law_due
  have q1 : (pBool (L9.pInR true (pCB lenD (aCons (pVar 0) aNil)) (aCons (pC (.int 1)) (aCons (pC (.int 21)) aNil)))) [some (.fz (bkD B)), none] = .ok (!okL B, [some (.fz (bkD B)), none]) := by
    show _ = Res.ok (!(decide ((1 : Int) ≤ (B.length : Int)) && decide ((B.length : Int) ≤ 20)), _)
    rw [← rngB, show (20 : Int) + 1 = 21 from rfl]
    exact ev_bool (ev_inRb (i := (B.length : Int)) (ev_cb (rv := .fz (.int (B.length : Int))) (ev_cons (ev_var rfl) ev_nil) rfl ln) (ev_cons ev_c (ev_cons ev_c ev_nil)) rfl rfl) rfl
  refine gs_if q1 (fun q => ?_) fun q => gs_next ?_
  · rw [Bool.not_eq_true'] at q
    refine gs_ret (pv := .fz (.tuple [.none])) (rv := .fz (.tuple [.none])) (ev_tup (ds := [.none]) (ev_cons ev_c ev_nil) rfl (Nat.le_of_ble_eq_true rfl)) rfl ?_
    unfold dueD
    rw [q, if_neg Bool.false_ne_true]
  rw [Bool.not_eq_false'] at q
  have due : dueD B = (match fstBad B with | some i => .tuple [nd i] | none => .none) := by unfold dueD; rw [q, if_pos rfl]
  refine gs_for (fun j ρ => (∃ t1, ρ = [some (.fz (bkD B)), t1]) ∧ ∀ k, k < j → badB B k = false) (ds := nds (List.range B.length)) (ρ1 := [some (.fz (bkD B)), none]) (ev_irng (ds := [nd B.length]) (ev_cons (ev_cb (rv := .fz (nd B.length)) (ev_cons (ev_var rfl) ev_nil) rfl ln) ev_nil) rfl rn) ⟨⟨none, rfl⟩, fun k h => absurd h (Nat.not_lt_zero _)⟩ ?_ ?_
  · rintro j d ρ hj ⟨⟨t1, rfl⟩, hg⟩
    obtain ⟨x, hx, rfl⟩ := nds_get hj
    obtain ⟨hl, e⟩ := List.getElem?_eq_some_iff.mp hx
    rw [List.getElem_range] at e
    subst e
    rw [List.length_range] at hl
    have go := good_ok hF hn hl
    refine ⟨_, rfl, go_if (b := badB B j) (ρ1 := [some (.fz (bkD B)), some (.fz (nd j))]) ?_ (fun z => ?_) fun z => go_next ⟨⟨_, rfl⟩, fun k hk => ?_⟩⟩
    · have := ev_qnot (ev_bool (b := !badB B j) (ev_calb (F := F__law_good) (n := 2) (fr := aCons (pVar 0) (aCons (pVar 1) aNil)) (ρ := [some (.fz (bkD B)), some (.fz (nd j))]) (ev_cons (ev_var rfl) (ev_cons (ev_var rfl) ev_nil)) rfl rfl go) rfl)
      rw [Bool.not_not] at this
      exact this
    · refine go_ret (pv := .fz (.tuple [nd j])) (rv := .fz (.tuple [nd j])) (ev_tup (ds := [nd j]) (ev_cons (ev_var rfl) ev_nil) rfl (Nat.le_of_ble_eq_true rfl)) rfl ?_
      have : fstBad B = some j := by
        unfold fstBad
        rw [List.find?_range_eq_some]
        exact ⟨z, List.mem_range.mpr hl, fun k hk => by rw [hg k hk]; rfl⟩
      rw [due, this]
    · by_cases hkj : k < j
      · exact hg k hkj
      · rw [show k = j by omega]; exact z
  · rintro ρ ⟨⟨t1, rfl⟩, hg⟩
    rw [nds_len, List.length_range] at hg
    refine go_ret (pv := .fz .none) (rv := .fz .none) ev_c rfl ?_
    have : fstBad B = none := by
      unfold fstBad
      rw [List.find?_eq_none]
      intro k hk
      rw [hg k (List.mem_range.mp hk)]
      exact Bool.false_ne_true
    rw [due, this]
theorem lay_ks : ∀ ss : List (List Int), PyData.canLayAll0 (ss.map kD) = true
  | [] => rfl
  | ks :: r => by show (PyData.canLayAll0 (ks.map PyData.int) && PyData.canLayAll0 (r.map kD)) = true; rw [okI, lay_ks r]; rfl
theorem dep_ks : ∀ ss : List (List Int), PyData.depthAll (ss.map kD) ≤ 1
  | [] => Nat.zero_le _
  | ks :: r => by
    show max (PyData.depthAll (ks.map PyData.int) + 1) (PyData.depthAll (r.map kD)) ≤ 1
    rw [depI]
    have := dep_ks r
    omega
theorem eqv_ks : ∀ ss : List (List Int), PyData.eqvAll (ss.map kD) (ss.map kD) = true
  | [] => rfl
  | ks :: r => by
    show (PyData.eqvAll (ks.map PyData.int) (ks.map PyData.int) && PyData.eqvAll (r.map kD) (r.map kD)) = true
    rw [eqvI, eqv_ks r, decide_eq_true rfl]; rfl
theorem lay_bk : ∀ {B : List Wd}, (∀ e ∈ B, ∀ c ∈ e.1, c < 1114112) → PyData.canLayAll0 (B.map wD) = true
  | [], _ => rfl
  | e :: r, h => by
    show ((PyData.strOk (tx e.1) && (PyData.canLayAll0 (e.2.map kD) && true)) && PyData.canLayAll0 (r.map wD)) = true
    rw [tx_ok (h e List.mem_cons_self), lay_ks, lay_bk fun x hx => h x (List.mem_cons_of_mem _ hx)]; rfl
theorem dep_bk : ∀ B : List Wd, PyData.depthAll (B.map wD) ≤ 3
  | [] => Nat.zero_le _
  | e :: r => by
    show max (max 0 (max (PyData.depthAll (e.2.map kD) + 1) 0) + 1) (PyData.depthAll (r.map wD)) ≤ 3
    have := dep_ks e.2
    have := dep_bk r
    omega
theorem eqv_bk : ∀ B : List Wd, PyData.eqvAll (B.map wD) (B.map wD) = true
  | [] => rfl
  | e :: r => by
    show ((decide (tx e.1 = tx e.1) && (PyData.eqvAll (e.2.map kD) (e.2.map kD) && true)) && PyData.eqvAll (r.map wD) (r.map wD)) = true
    rw [eqv_ks, eqv_bk r, decide_eq_true rfl]; rfl
theorem eqD_bk (hF : Fit n B) : eqD (.tuple (B.map wD)) (bkD B) = some (.fz (.bool true)) := by
  have hl := lay_bk fun e he => (hF.en e he).wc
  unfold eqD
  have h1 : okD (.tuple (B.map wD)) = true := by
    show (PyData.canLayAll0 (B.map wD) && decide (PyData.depthAll (B.map wD) + 1 ≤ 64)) = true
    rw [hl, decide_eq_true (by have := dep_bk B; omega)]; rfl
  rw [h1, show PyData.canLay0 (bkD B) = true from hl, Bool.and_self, if_pos rfl, show PyData.eqv (.tuple (B.map wD)) (bkD B) = _ from eqv_bk B]
theorem told_ok (hF : Fit n B) (hn : n ≤ 10) : F__law_told [bkD B] = .ok (.fz (dueD B)) := by
  have len := hF.len
  unfold F__law_told
  dsimp only
  cases q : okL B with
  | false =>
    rw [checkedN q]
    dsimp only
    rw [if_pos rfl, if_pos ⟨rfl, rfl⟩]
    unfold dueD
    rw [q, if_neg Bool.false_ne_true]
  | true =>
    have due : dueD B = (match fstBad B with | some i => .tuple [nd i] | none => .none) := by unfold dueD; rw [q, if_pos rfl]
    cases f : fstBad B with
    | some i =>
      have f' := f
      unfold fstBad at f'
      rw [List.find?_range_eq_some] at f'
      obtain ⟨h1, h2, h3⟩ := f'
      have hi := List.mem_range.mp h2
      rw [checkedX hF hn q hi (fun j hj => by have := h3 j hj; exact Bool.eq_false_iff.mpr fun z => by rw [z] at this; cases this) h1]
      dsimp only
      rw [if_pos rfl, if_pos ⟨rfl, fs_nd (by omega)⟩, due, f]
    | none =>
      have f' := f
      unfold fstBad at f'
      rw [List.find?_eq_none] at f'
      rw [checkedG hF hn q fun j hj => Bool.eq_false_iff.mpr (f' j (List.mem_range.mpr hj))]
      show (match eqD (.tuple (B.map wD)) (bkD B) with
        | some (.fz (.bool true)) => Res.ok (RV.fz .none)
        | _ => .bad) = _
      rw [eqD_bk hF, due, f]
end
theorem alph_at {i : Int} (h0 : 0 ≤ i) (h1 : i < 26) : ixS (.str "abcdefghijklmnopqrstuvwxyz") (.int i) = some (.fz (.str (tx [97 + i.toNat]))) := by
  have tab : ∀ c, c < 26 → (("abcdefghijklmnopqrstuvwxyz" : Str).cps.toList)[c]? = some (97 + c) := by decide +kernel
  have ln : ("abcdefghijklmnopqrstuvwxyz" : Str).length ≤ 1000000 := by decide +kernel
  show (if ("abcdefghijklmnopqrstuvwxyz" : Str).length ≤ 1000000 then (atI ("abcdefghijklmnopqrstuvwxyz" : Str).cps.toList i).map (fun c => RV.fz (.str ⟨#[c]⟩)) else none) = _
  rw [if_pos ln, atI_int h0 (tab i.toNat (by omega))]
  rfl
noncomputable def isL (l : List Nat) : Prop := ∀ c ∈ l, 97 ≤ c ∧ c ≤ 122
theorem isL_all {l : List Nat} (h : isL l) : l.all ltB = true := List.all_eq_true.mpr fun c hc => by
  unfold ltB
  rw [decide_eq_true (h c hc).1, decide_eq_true (h c hc).2]; rfl
theorem isL_wd {l : List Nat} (h : isL l) (h1 : 1 ≤ l.length) (h2 : l.length ≤ 8) : wdB l = true := by
  unfold wdB
  rw [isL_all h, decide_eq_true (by omega), decide_eq_true (by omega)]; rfl
theorem isL_app {a b : List Nat} (h : isL a) (g : isL b) : isL (a ++ b) := fun c hc => by
  rcases List.mem_append.mp hc with z | z
  · exact h c z
  · exact g c z
theorem isL_one {i : Int} (h0 : 0 ≤ i) (h1 : i < 26) : isL [97 + i.toNat] := fun c hc => by
  rw [List.mem_singleton.mp hc]; omega
theorem isL_rep {i : Int} (h0 : 0 ≤ i) (h1 : i < 26) (n : Nat) : isL (List.replicate n (97 + i.toNat)) := fun c hc => by
  rw [(List.mem_replicate.mp hc).2]; omega
theorem s_empty : (PyData.str "") = .str (tx []) := by
  have : ("" : Str) = tx [] := by decide +kernel
  rw [this]
theorem name_of_ok {x : Int} (hx : 0 ≤ x) : ∃ l : List Nat, isL l ∧ 1 ≤ l.length ∧ l.length ≤ 8 ∧ F__law_name_of [.int x] = .ok (.fz (.str (tx l))) := by
  have b1 : 0 ≤ x % 8 ∧ x % 8 < 8 := ⟨Int.emod_nonneg _ (by decide), Int.emod_lt_of_pos _ (by decide)⟩
  have m1 : modD (.int x) (.int 8) = some (.fz (.int (x % 8))) := tr_mod (by decide)
  have m2 : divD (.int x) (.int 8) = some (.fz (.int (x / 8))) := tr_div ⟨by decide, by decide⟩
  have r1 : rng1 [.int (1 + x % 8)] = some (nds (List.range (1 + x % 8).toNat)) := rng1_i (by omega) (by omega)
  have n2 : 0 ≤ x / 8 := Int.ediv_nonneg hx (by decide)
  generalize x / 8 = x8 at m2 n2
  generalize x % 8 = xm at m1 b1 r1
  obtain ⟨rv, e, l, h1, h2, h3, rfl⟩ := go_run (ds := [.int x]) (ρ := [some (.fz (.int x)), none, none, none]) (n := 4) (g := g__law_name_of) (T := fun v => ∃ l : List Nat, isL l ∧ 1 ≤ l.length ∧ l.length ≤ 8 ∧ v = .fz (.str (tx l))) rfl (by
    unfold g__law_name_of
    rw [s_empty]
    walk_at "go"
    with_reducible apply gs_for (fun i ρ => ∃ (y : Int) (l : List Nat) (t3 : Option PV), ρ = [some (.fz (.int y)), some (.fz (.str (tx l))), some (.fz (.int (1 + xm))), t3] ∧ l.length = i ∧ isL l ∧ 0 ≤ y)
    · walk_at "ev"
    · exact ⟨x8, [], none, rfl, rfl, (fun c h => by cases h), n2⟩
    · rintro i d ρ hi ⟨y, l, t3, rfl, hl, hL, hy⟩
      obtain ⟨k, hk, rfl⟩ := nds_get hi
      have hi8 : i < (1 + xm).toNat := by have := (List.getElem?_eq_some_iff.mp hk).1; simpa using this
      have b2 : 0 ≤ y % 26 ∧ y % 26 < 26 := ⟨Int.emod_nonneg _ (by decide), Int.emod_lt_of_pos _ (by decide)⟩
      have m3 : modD (.int y) (.int 26) = some (.fz (.int (y % 26))) := tr_mod (by decide)
      have m4 : divD (.int y) (.int 26) = some (.fz (.int (y / 26))) := tr_div ⟨by decide, by decide⟩
      have n4 : 0 ≤ y / 26 := Int.ediv_nonneg hy (by decide)
      have al := alph_at b2.1 b2.2
      have o1 := isL_one b2.1 b2.2
      have ad := addS_tx (a := l) (b := [97 + (y % 26).toNat]) (by rw [List.length_singleton]; omega)
      generalize 97 + (y % 26).toNat = c at al o1 ad
      refine ⟨_, rfl, ?_⟩
      walk_at "go"
      exact ⟨y / 26, l ++ [c], _, rfl, by rw [List.length_append, hl]; rfl, isL_app hL o1, n4⟩
    · rintro ρ ⟨y, l, t3, rfl, hl, hL, hy⟩
      rw [nds_len, List.length_range] at hl
      exact go_ret (ev_var rfl) rfl ⟨l, hL, by omega, by omega, rfl⟩)
  exact ⟨l, h1, h2, h3, e⟩
structure UpK (i : Nat) (ks : List Int) : Prop where
  pw : ks.Pairwise (· < ·)
  lo : ∀ k ∈ ks, 0 ≤ k ∧ k < i
theorem UpK.nil : UpK 0 [] := ⟨List.Pairwise.nil, fun k h => by cases h⟩
theorem UpK.same {i : Nat} {ks : List Int} (h : UpK i ks) : UpK (i + 1) ks := ⟨h.pw, fun k hk => by have := h.lo k hk; omega⟩
theorem UpK.snoc {i : Nat} {ks : List Int} (h : UpK i ks) : UpK (i + 1) (ks ++ [(i : Int)]) := by
  refine ⟨List.pairwise_append.mpr ⟨h.pw, List.pairwise_singleton _ _, fun a ha b hb => ?_⟩, fun k hk => ?_⟩
  · rw [List.mem_singleton.mp hb]; exact (h.lo a ha).2
  · rcases List.mem_append.mp hk with z | z
    · have := h.lo k z; omega
    · rw [List.mem_singleton.mp z]; omega
theorem up_len : ∀ {ks : List Int} {a b : Int}, ks.Pairwise (· < ·) → (∀ k ∈ ks, a ≤ k ∧ k < b) → a ≤ b → (ks.length : Int) ≤ b - a
  | [], a, b, _, _, h => by rw [List.length_nil]; omega
  | k :: r, a, b, hp, hk, h => by
    obtain ⟨h1, h2⟩ := List.pairwise_cons.mp hp
    have h3 := hk k List.mem_cons_self
    have := up_len (a := k + 1) (b := b) h2 (fun x hx => ⟨by have := h1 x hx; omega, (hk x (List.mem_cons_of_mem _ hx)).2⟩) (by omega)
    rw [List.length_cons]; omega
theorem UpK.len {i : Nat} {ks : List Int} (h : UpK i ks) : ks.length ≤ i := by have := up_len h.pw h.lo (by omega); omega
theorem UpK.st {ks : List Int} (h : UpK 12 ks) (hne : 1 ≤ ks.length) : stB ks = true := by
  unfold stB
  rw [decide_eq_true (by omega), (risB_iff ks).mpr h.pw, List.all_eq_true.mpr fun k hk => ?_]
  · rfl
  · have := h.lo k hk
    unfold inB
    rw [decide_eq_true this.1, decide_eq_true (show k < 12 by omega)]; rfl
theorem mod2 (m : Int) : eqD (.int (m % 2)) (.int 1) = some (.fz (.bool (decide (m % 2 = 1)))) := eqD_int _ _
theorem stroke_of_ok {x : Int} (hx : 0 ≤ x) (hx2 : x < 4095) : ∃ ks : List Int, stB ks = true ∧ ks.length ≤ 12 ∧ F__law_stroke_of [.int x] = .ok (.fz (kD ks)) := by
  have r1 : rng1 [.int 12] = some (nds (List.range 12)) := rng1_i (n := 12) (by decide) (by decide)
  obtain ⟨rv, e, ks, h1, h2, rfl⟩ := go_run (ds := [.int x]) (ρ := [some (.fz (.int x)), none, none, none]) (n := 4) (g := g__law_stroke_of) (T := fun v => ∃ ks : List Int, stB ks = true ∧ ks.length ≤ 12 ∧ v = .fz (kD ks)) rfl (by
    unfold g__law_stroke_of
    walk_at "go"
    with_reducible apply gs_for (fun i ρ => ∃ (m : Int) (ks : List Int) (t3 : Option PV), ρ = [some (.fz (.int x)), some (.fz (.int m)), some (.ow (ks.map .int)), t3] ∧ UpK i ks ∧ 0 ≤ m ∧ m < 2 ^ (12 - i) ∧ (1 ≤ ks.length ∨ 1 ≤ m))
    · walk_at "ev"
    · exact ⟨1 + x, [], none, rfl, .nil, by omega, by show 1 + x < 4096; omega, .inr (by omega)⟩
    · rintro i d ρ hi ⟨m, ks, t3, rfl, hU, h0, hm, hne⟩
      obtain ⟨k, hk, rfl⟩ := nds_get hi
      obtain ⟨hl, e⟩ := List.getElem?_eq_some_iff.mp hk
      rw [List.getElem_range] at e
      subst e
      rw [List.length_range] at hl
      have m1 : modD (.int m) (.int 2) = some (.fz (.int (m % 2))) := tr_mod (by decide)
      have m2 : divD (.int m) (.int 2) = some (.fz (.int (m / 2))) := tr_div ⟨by decide, by decide⟩
      have e2 := mod2 m
      have hp : (2 : Int) ^ (12 - i) = 2 * 2 ^ (12 - (i + 1)) := by
        rw [show 12 - i = (12 - (i + 1)) + 1 by omega, Int.pow_succ, Int.mul_comm]
      rw [hp] at hm
      generalize (2 : Int) ^ (12 - (i + 1)) = p at hm
      have hlen : (ks.map PyData.int).length < 1000000 := by rw [List.length_map]; have := hU.len; omega
      refine ⟨_, rfl, ?_⟩
      walk_at "go"
      · intro q
        have q := of_decide_eq_true q
        walk_at "go"
        exact ⟨m / 2, ks ++ [(i : Int)], _, by rw [List.map_append]; rfl, hU.snoc, by omega, by omega, .inl (by rw [List.length_append, List.length_singleton]; omega)⟩
      · intro q
        have q := of_decide_eq_false q
        refine gs_next ?_
        walk_at "go"
        exact ⟨m / 2, ks, _, rfl, hU.same, by omega, by omega, hne.imp id fun z => by omega⟩
    · rintro ρ ⟨m, ks, t3, rfl, hU, h0, hm, hne⟩
      rw [nds_len, List.length_range] at hm hU
      have hm : m < 1 := hm
      exact go_ret (pv := .fz (kD ks)) (ev_cb (rv := .fz (kD ks)) (ev_cons (ev_own rfl) ev_nil) rfl rfl) rfl ⟨ks, hU.st (by omega), hU.len, rfl⟩)
  exact ⟨ks, h1, h2, e⟩
theorem stroke_dr {c : Int} (hc : 0 ≤ c) (w : Bool) : ∃ ks : List Int, stB ks = true ∧ ks.length ≤ 12 ∧ F__law_stroke [.int c, .bool w] = .ok (.fz (kD ks)) := by
  have r1 : rng1 [.int 12] = some (nds (List.range 12)) := rng1_i (n := 12) (by decide) (by decide)
  have m0 : divD (.int c) (.int 4) = some (.fz (.int (c / 4))) := tr_div ⟨by decide, by decide⟩
  have m4 : modD (.int c) (.int 4) = some (.fz (.int (c % 4))) := tr_mod (by decide)
  have b4 : 0 ≤ c % 4 ∧ c % 4 < 4 := ⟨Int.emod_nonneg _ (by decide), Int.emod_lt_of_pos _ (by decide)⟩
  obtain ⟨ks4, k1, k2, ix⟩ : ∃ ks : List Int, stB ks = true ∧ ks.length ≤ 12 ∧ ixD (.list [kD [0], kD [1], kD [0, 1], kD [2, 11]]) (.int (c % 4)) = some (.fz (kD ks)) := by
    generalize c % 4 = j at b4
    obtain ⟨n, rfl⟩ : ∃ n : Nat, j = (n : Int) := ⟨j.toNat, by omega⟩
    match n, b4 with
    | 0, _ => exact ⟨[0], rfl, by decide, ixL (i := 0) rfl⟩
    | 1, _ => exact ⟨[1], rfl, by decide, ixL (i := 1) rfl⟩
    | 2, _ => exact ⟨[0, 1], rfl, by decide, ixL (i := 2) rfl⟩
    | 3, _ => exact ⟨[2, 11], rfl, by decide, ixL (i := 3) rfl⟩
    | n + 4, h => omega
  have last : ∀ (t3 t4 t5 : Option PV), Go (sRet (pOp ixD (pVar 2) (pOp modD (pVar 0) (pC (.int 4)))) [some (.fz (.int c)), some (.fz (.bool w)), some (.ow [kD [0], kD [1], kD [0, 1], kD [2, 11]]), t3, t4, t5]) (fun _ => ∃ ks : List Int, stB ks = true ∧ ks.length ≤ 12 ∧ RV.fz PyData.none = .fz (kD ks)) (fun _ => False) (fun v => ∃ ks : List Int, stB ks = true ∧ ks.length ≤ 12 ∧ v = .fz (kD ks)) := fun t3 t4 t5 =>
    go_ret (pv := .fz (kD ks4)) (ev_op (rv := .fz (kD ks4)) (ev_own rfl) (by walk_at "ev") rfl rfl ix) rfl ⟨ks4, k1, k2, rfl⟩
  obtain ⟨rv, e, ks, h1, h2, rfl⟩ := go_run (ds := [.int c, .bool w]) (ρ := [some (.fz (.int c)), some (.fz (.bool w)), none, none, none, none]) (n := 6) (g := g__law_stroke) (T := fun v => ∃ ks : List Int, stB ks = true ∧ ks.length ≤ 12 ∧ v = .fz (kD ks)) rfl (by
    unfold g__law_stroke
    refine gs_asg (pv := .ow [kD [0], kD [1], kD [0, 1], kD [2, 11]]) (ρ3 := [some (.fz (.int c)), some (.fz (.bool w)), some (.ow [kD [0], kD [1], kD [0, 1], kD [2, 11]]), none, none, none]) (by walk_at "ev") rfl rfl ?_
    refine gs_if (ev_bool (ev_var rfl) rfl) (fun _ => ?_) fun _ => gs_next (last _ _ _)
    walk_at "go"
    with_reducible apply gs_for (fun i ρ => ∃ (m : Int) (ks : List Int) (t5 : Option PV), ρ = [some (.fz (.int c)), some (.fz (.bool w)), some (.ow [kD [0], kD [1], kD [0, 1], kD [2, 11]]), some (.fz (.int m)), some (.ow (ks.map .int)), t5] ∧ UpK i ks)
    · walk_at "ev"
    · exact ⟨c / 4, [], none, rfl, .nil⟩
    · rintro i d ρ hi ⟨m, ks, t5, rfl, hU⟩
      obtain ⟨k, hk, rfl⟩ := nds_get hi
      obtain ⟨hl, e⟩ := List.getElem?_eq_some_iff.mp hk
      rw [List.getElem_range] at e
      subst e
      rw [List.length_range] at hl
      have m1 : modD (.int m) (.int 2) = some (.fz (.int (m % 2))) := tr_mod (by decide)
      have m2 : divD (.int m) (.int 2) = some (.fz (.int (m / 2))) := tr_div ⟨by decide, by decide⟩
      have e2 := mod2 m
      have hlen : (ks.map PyData.int).length < 1000000 := by rw [List.length_map]; have := hU.len; omega
      refine ⟨_, rfl, ?_⟩
      walk_at "go"
      · intro _
        walk_at "go"
        exact ⟨m / 2, ks ++ [(i : Int)], _, by rw [List.map_append]; rfl, hU.snoc⟩
      · intro _
        refine gs_next ?_
        walk_at "go"
        exact ⟨m / 2, ks, _, rfl, hU.same⟩
    · rintro ρ ⟨m, ks, t5, rfl, hU⟩
      rw [nds_len, List.length_range] at hU
      have ln : lenD [.list (ks.map PyData.int)] = some (.fz (.int (ks.length : Int))) := by
        show some (RV.fz (.int ((ks.map PyData.int).length : Int))) = _
        rw [List.length_map]
      refine gs_if (b := decide ((ks.length : Int) > 0)) (ev_bool (ev_opb (dx := .int (ks.length : Int)) (dy := .int 0) (ev_cb (rv := .fz (.int (ks.length : Int))) (ev_cons (ev_own rfl) ev_nil) rfl ln) ev_c rfl rfl (tr_gt _ _)) rfl) (fun q => ?_) fun _ => gs_next (last _ _ _)
      have q := of_decide_eq_true q
      exact gs_ret (pv := .fz (kD ks)) (ev_cb (rv := .fz (kD ks)) (ev_cons (ev_own rfl) ev_nil) rfl rfl) rfl ⟨ks, hU.st (by omega), hU.len, rfl⟩)
  exact ⟨ks, h1, h2, e⟩
structure GE (e : Wd) : Prop where
  wd : isL e.1
  w1 : 1 ≤ e.1.length
  w8 : e.1.length ≤ 8
  s1 : 1 ≤ e.2.length
  s6 : e.2.length ≤ 6
  st : ∀ ks ∈ e.2, stB ks = true ∧ ks.length ≤ 12
structure Bk (B : List Wd) : Prop where
  l1 : 1 ≤ B.length
  l20 : B.length ≤ 20
  ge : ∀ e ∈ B, GE e
  nd : (B.map (·.1)).Nodup
theorem Bk.fit {B : List Wd} (h : Bk B) : Fit 0 B := ⟨h.l20, fun e he => ⟨(h.ge e he).w8, fun c hc => by have := (h.ge e he).wd c hc; omega, by have := (h.ge e he).s6; omega, fun ks hk => ((h.ge e he).st ks hk).2⟩⟩
theorem GE.wdB {e : Wd} (h : GE e) : wdB e.1 = true := isL_wd h.wd h.w1 h.w8
theorem GE.ssB {e : Wd} (h : GE e) : ssB e.2 = true := by
  unfold K61.ssB
  have h1 := h.s1
  have h2 := h.s6
  rw [List.all_eq_true.mpr fun ks hk => (h.st ks hk).1, decide_eq_true (by omega), decide_eq_true (by omega)]; rfl
theorem Bk.okL {B : List Wd} (h : Bk B) : okL B = true := by
  have h1 := h.l1
  have h2 := h.l20
  show (decide ((1 : Int) ≤ (B.length : Int)) && decide ((B.length : Int) ≤ 20)) = true
  rw [decide_eq_true (by omega), decide_eq_true (by omega)]; rfl
theorem Bk.good {B : List Wd} (h : Bk B) {i : Nat} (hi : i < B.length) : badB B i = false := by
  have ge := h.ge _ (bk_mem hi)
  unfold badB
  rw [ge.wdB, ge.ssB]
  have : hasB B i = false := by
    unfold hasB
    refine decide_eq_false fun z => ?_
    obtain ⟨e, he, q⟩ := List.mem_map.mp z
    obtain ⟨j, hj, rfl⟩ := List.mem_iff_getElem.mp he
    rw [List.length_take] at hj
    rw [List.getElem_take] at q
    have hji : j < i := by omega
    have := List.pairwise_iff_getElem.mp h.nd j i (by rw [List.length_map]; omega) (by rw [List.length_map]; exact hi) hji
    rw [List.getElem_map, List.getElem_map] at this
    apply this
    rw [q, List.getD_eq_getElem?_getD, List.getElem?_eq_getElem hi]
    rfl
  rw [this]; rfl
theorem Bk.due {B : List Wd} (h : Bk B) : dueD B = .none := by
  unfold dueD
  rw [h.okL, if_pos rfl]
  have : fstBad B = none := by
    unfold fstBad
    rw [List.find?_eq_none]
    intro k hk
    rw [h.good (List.mem_range.mp hk)]
    exact Bool.false_ne_true
  rw [this]
theorem nd_snoc {α : Type} {l : List α} {a : α} (h : l.Nodup) (ha : a ∉ l) : (l ++ [a]).Nodup := List.nodup_append.mpr ⟨h, List.nodup_cons.mpr ⟨List.not_mem_nil, List.nodup_nil⟩, fun x hx y hy z => by rw [List.mem_singleton.mp hy] at z; subst z; exact ha hx⟩
theorem list_of2 {α : Type} {f : α → D} {ys : List D} (h : ∀ y ∈ ys, ∃ a, y = f a) : ∃ xs : List α, ys = xs.map f := by
  induction ys with
  | nil => exact ⟨[], rfl⟩
  | cons y r ih =>
    obtain ⟨a, rfl⟩ := h y List.mem_cons_self
    obtain ⟨xs, rfl⟩ := ih fun z hz => h z (List.mem_cons_of_mem _ hz)
    exact ⟨a :: xs, rfl⟩
noncomputable abbrev txD (l : List Nat) : D := .str (tx l)
theorem wmid {s o p : Nat} {a b : Nat} (h : List.replicate a s ++ [o] ++ List.replicate b s = List.replicate a s ++ [p] ++ List.replicate b s) : o = p := by
  rw [List.append_assoc, List.append_assoc] at h
  have := List.append_cancel_left h
  exact (List.cons.inj this).1
theorem names_dr {c : Int} (hc : 0 ≤ c) {m : Nat} (hm : m ≤ 20) : ∃ N : List (List Nat), N.length = m ∧ N.Nodup ∧ (∀ l ∈ N, isL l ∧ 1 ≤ l.length ∧ l.length ≤ 8) ∧ F__law_names [.int c, nd m] = .ok (.ow (N.map txD)) := by
  have b26 : 0 ≤ c / 3 % 26 ∧ c / 3 % 26 < 26 := ⟨Int.emod_nonneg _ (by decide), Int.emod_lt_of_pos _ (by decide)⟩
  have d3 : divD (.int c) (.int 3) = some (.fz (.int (c / 3))) := tr_div ⟨by decide, by decide⟩
  have m26 : modD (.int (c / 3)) (.int 26) = some (.fz (.int (c / 3 % 26))) := tr_mod (by decide)
  have al := alph_at b26.1 b26.2
  have rp := isL_rep b26.1 b26.2
  generalize c / 3 % 26 = j at b26 m26 al rp
  generalize 97 + j.toNat = s at al rp
  have m3 : modD (.int c) (.int 3) = some (.fz (.int (c % 3))) := tr_mod (by decide)
  have e3 : eqD (.int (c % 3)) (.int 0) = some (.fz (.bool (decide (c % 3 = 0)))) := eqD_int _ _
  have rm := rng1_nd (n := m) (by omega)
  have d78 : divD (.int c) (.int 78) = some (.fz (.int (c / 78))) := tr_div ⟨by decide, by decide⟩
  have m8 : modD (.int (c / 78)) (.int 8) = some (.fz (.int (c / 78 % 8))) := tr_mod (by decide)
  have b8 : 0 ≤ c / 78 % 8 ∧ c / 78 % 8 < 8 := ⟨Int.emod_nonneg _ (by decide), Int.emod_lt_of_pos _ (by decide)⟩
  generalize c / 78 % 8 = sz at m8 b8
  have d624 : divD (.int c) (.int 624) = some (.fz (.int (c / 624))) := tr_div ⟨by decide, by decide⟩
  have mat : modD (.int (c / 624)) (.int (sz + 1)) = some (.fz (.int (c / 624 % (sz + 1)))) := tr_mod (by omega)
  have bat : 0 ≤ c / 624 % (sz + 1) ∧ c / 624 % (sz + 1) < sz + 1 := ⟨Int.emod_nonneg _ (by omega), Int.emod_lt_of_pos _ (by omega)⟩
  generalize c / 624 % (sz + 1) = a at mat bat
  have d56 : divD (.int c) (.int 5616) = some (.fz (.int (c / 5616))) := tr_div ⟨by decide, by decide⟩
  have n56 : 0 ≤ c / 5616 := Int.ediv_nonneg hc (by decide)
  generalize c / 5616 = dd at d56 n56
  have mu1 := mulS_tx (c := s) bat.1 (show a ≤ 1000 by omega)
  have mu2 := mulS_tx (c := s) (show 0 ≤ sz - a by omega) (show sz - a ≤ 1000 by omega)
  obtain ⟨rv, e, N, h1, h2, h3, rfl⟩ := go_run (ds := [.int c, nd m]) (ρ := [some (.fz (.int c)), some (.fz (nd m)), none, none, none, none, none, none, none]) (n := 9) (g := g__law_names) (T := fun v => ∃ N : List (List Nat), N.length = m ∧ N.Nodup ∧ (∀ l ∈ N, isL l ∧ 1 ≤ l.length ∧ l.length ≤ 8) ∧ v = .ow (N.map txD)) rfl (by
    unfold g__law_names
    refine gs_asg (pv := .fz (.str "abcdefghijklmnopqrstuvwxyz")) (ρ3 := [some (.fz (.int c)), some (.fz (nd m)), some (.fz (.str "abcdefghijklmnopqrstuvwxyz")), none, none, none, none, none, none]) ev_c rfl rfl ?_
    refine gs_asg (pv := .fz (txD [s])) (ρ3 := [some (.fz (.int c)), some (.fz (nd m)), some (.fz (.str "abcdefghijklmnopqrstuvwxyz")), some (.fz (txD [s])), none, none, none, none, none]) (ev_op (rv := .fz (txD [s])) (ev_var rfl) (by walk_at "ev") rfl rfl al) rfl rfl ?_
    refine gs_if (b := decide (c % 3 = 0) && decide ((m : Int) < 9)) (by walk_at "ev") (fun q => ?_) fun _ => gs_next ?_
    · rw [Bool.and_eq_true, decide_eq_true_iff, decide_eq_true_iff] at q
      have cmp : noEr (compP (gN 0) qTrue (pOp L9.mulS (pVar 1) (pOp addD (pVar 0) (pC (.int 1)))) ((List.range m).map nd) [none, some (.fz (txD [s]))] []) = .ok ((List.range m).map fun k => txD (List.replicate (k + 1) s)) := by
        refine comp_mv (List.range m) (by rw [List.length_range]; omega) rfl fun k hk => ?_
        have hk := List.mem_range.mp hk
        have mu := mulS_tx (c := s) (i := (k : Int) + 1) (by omega) (by omega)
        rw [show ((k : Int) + 1).toNat = k + 1 by omega] at mu
        exact ev_op (rv := .fz (txD (List.replicate (k + 1) s))) (ev_var rfl) (ev_op (rv := .fz (.int ((k : Int) + 1))) (ev_var rfl) ev_c rfl rfl (tr_add _ _)) rfl rfl mu
      refine gs_ret (ev_comp (xs := (List.range m).map fun k => txD (List.replicate (k + 1) s)) (ev_irng (ds := [nd m]) (ev_cons (ev_var rfl) ev_nil) rfl rm) rfl cmp) rfl ⟨(List.range m).map fun k => List.replicate (k + 1) s, by rw [List.length_map, List.length_range], ?_, fun l hl => ?_, by rw [List.map_map]; rfl⟩
      · refine List.nodup_iff_pairwise_ne.mpr (List.pairwise_map.mpr (List.nodup_range.imp fun {x y} hne z => hne ?_))
        have := congrArg List.length z
        rw [List.length_replicate, List.length_replicate] at this
        omega
      · obtain ⟨k, hk, rfl⟩ := List.mem_map.mp hl
        have hk := List.mem_range.mp hk
        rw [List.length_replicate]
        exact ⟨rp _, by omega, by omega⟩
    · refine gs_asg (pv := .fz (.int sz)) (ρ3 := [some (.fz (.int c)), some (.fz (nd m)), some (.fz (.str "abcdefghijklmnopqrstuvwxyz")), some (.fz (txD [s])), some (.fz (.int sz)), none, none, none, none]) (by walk_at "evp") rfl rfl ?_
      refine gs_asg (pv := .fz (.int a)) (ρ3 := [some (.fz (.int c)), some (.fz (nd m)), some (.fz (.str "abcdefghijklmnopqrstuvwxyz")), some (.fz (txD [s])), some (.fz (.int sz)), some (.fz (.int a)), none, none, none]) (by walk_at "evp") rfl rfl ?_
      refine gs_asg (pv := .ow []) (ρ3 := [some (.fz (.int c)), some (.fz (nd m)), some (.fz (.str "abcdefghijklmnopqrstuvwxyz")), some (.fz (txD [s])), some (.fz (.int sz)), some (.fz (.int a)), some (.ow []), none, none]) (by walk_at "evp") rfl rfl ?_
      refine gs_for (fun i ρ => ∃ (t7 t8 : Option PV), ρ = [some (.fz (.int c)), some (.fz (nd m)), some (.fz (.str "abcdefghijklmnopqrstuvwxyz")), some (.fz (txD [s])), some (.fz (.int sz)), some (.fz (.int a)), some (.ow (((List.range i).map fun k : Nat => List.replicate a.toNat s ++ [97 + (((k : Int) * 7 + dd) % 26).toNat] ++ List.replicate (sz - a).toNat s).map txD)), t7, t8]) (ds := nds (List.range m)) (ρ1 := [some (.fz (.int c)), some (.fz (nd m)), some (.fz (.str "abcdefghijklmnopqrstuvwxyz")), some (.fz (txD [s])), some (.fz (.int sz)), some (.fz (.int a)), some (.ow []), none, none]) (ev_irng (ds := [nd m]) (ev_cons (ev_var rfl) ev_nil) rfl rm) ⟨none, none, rfl⟩ ?_ ?_
      · rintro i d ρ hi ⟨t7, t8, rfl⟩
        obtain ⟨k, hk, rfl⟩ := nds_get hi
        obtain ⟨hl, e⟩ := List.getElem?_eq_some_iff.mp hk
        rw [List.getElem_range] at e
        subst e
        rw [List.length_range] at hl
        have bo : 0 ≤ ((i : Int) * 7 + dd) % 26 ∧ ((i : Int) * 7 + dd) % 26 < 26 := ⟨Int.emod_nonneg _ (by decide), Int.emod_lt_of_pos _ (by decide)⟩
        have mu : mulE (nd i) (.int 7) = some (.fz (.int ((i : Int) * 7))) := trE_mulR ⟨by decide, by decide⟩
        have mo : modD (.int ((i : Int) * 7 + dd)) (.int 26) = some (.fz (.int (((i : Int) * 7 + dd) % 26))) := tr_mod (by decide)
        have ao := alph_at bo.1 bo.2
        rw [List.range_succ, List.map_append, List.map_append]
        show ∃ ρ1, _ ∧ Go _ (fun ρ => ∃ (t7 t8 : Option PV), ρ = [_, _, _, _, _, _, some (.ow (_ ++ [txD (List.replicate a.toNat s ++ [97 + (((i : Int) * 7 + dd) % 26).toNat] ++ List.replicate (sz - a).toNat s)])), t7, t8]) _ _
        have hlen : (((List.range i).map fun k : Nat => List.replicate a.toNat s ++ [97 + (((k : Int) * 7 + dd) % 26).toNat] ++ List.replicate (sz - a).toNat s).map txD).length < 1000000 := by rw [List.length_map, List.length_map, List.length_range]; omega
        generalize ((List.range i).map fun k : Nat => List.replicate a.toNat s ++ [97 + (((k : Int) * 7 + dd) % 26).toNat] ++ List.replicate (sz - a).toNat s).map txD = pre at hlen
        generalize 97 + (((i : Int) * 7 + dd) % 26).toNat = o at ao
        have a1 := addS_tx (a := List.replicate a.toNat s) (b := [o]) (by rw [List.length_replicate, List.length_singleton]; omega)
        have a2 := addS_tx (a := List.replicate a.toNat s ++ [o]) (b := List.replicate (sz - a).toNat s) (by rw [List.length_append, List.length_replicate, List.length_replicate, List.length_singleton]; omega)
        generalize List.replicate a.toNat s = ra at mu1 a1 a2
        generalize List.replicate (sz - a).toNat s = rb at mu2 a2
        refine ⟨_, rfl, ?_⟩
        refine gs_asg (pv := .fz (txD [o])) (ρ3 := [some (.fz (.int c)), some (.fz (nd m)), some (.fz (.str "abcdefghijklmnopqrstuvwxyz")), some (.fz (txD [s])), some (.fz (.int sz)), some (.fz (.int a)), some (.ow pre), some (.fz (nd i)), some (.fz (txD [o]))]) (ev_op (rv := .fz (txD [o])) (ev_var rfl) (ev_op (rv := .fz (.int (((i : Int) * 7 + dd) % 26))) (ev_op (rv := .fz (.int ((i : Int) * 7 + dd))) (ev_op (rv := .fz (.int ((i : Int) * 7))) (ev_var rfl) ev_c rfl rfl mu) (ev_op (rv := .fz (.int dd)) (ev_var rfl) ev_c rfl rfl d56) rfl rfl (tr_add _ _)) ev_c rfl rfl mo) rfl rfl ao) rfl rfl ?_
        exact go_drop (ev_app (d := txD (ra ++ [o] ++ rb)) (x := [some (.fz (.int c)), some (.fz (nd m)), some (.fz (.str "abcdefghijklmnopqrstuvwxyz")), some (.fz (txD [s])), some (.fz (.int sz)), some (.fz (.int a)), some (.ow (pre ++ [txD (ra ++ [o] ++ rb)])), some (.fz (nd i)), some (.fz (txD [o]))]) rfl (ev_op (rv := .fz (txD (ra ++ [o] ++ rb))) (ev_op (rv := .fz (txD (ra ++ [o]))) (ev_op (rv := .fz (txD ra)) (ev_var rfl) (ev_var rfl) rfl rfl mu1) (ev_var rfl) rfl rfl a1) (ev_op (rv := .fz (txD rb)) (ev_var rfl) (by walk_at "ev") rfl rfl mu2) rfl rfl a2) rfl rfl hlen rfl) ⟨_, _, rfl⟩
      · rintro ρ ⟨t7, t8, rfl⟩
        rw [nds_len, List.length_range]
        refine go_ret (ev_own rfl) rfl ⟨(List.range m).map fun k : Nat => List.replicate a.toNat s ++ [97 + (((k : Int) * 7 + dd) % 26).toNat] ++ List.replicate (sz - a).toNat s, by rw [List.length_map, List.length_range], ?_, fun l hl => ?_, rfl⟩
        · refine List.nodup_iff_pairwise_ne.mpr (List.pairwise_map.mpr ?_)
          refine List.Pairwise.imp_of_mem ?_ (List.nodup_range (n := m))
          intro x y hx hy hne z
          have hx := List.mem_range.mp hx
          have hy := List.mem_range.mp hy
          have := wmid z
          apply hne
          omega
        · obtain ⟨k, hk, rfl⟩ := List.mem_map.mp hl
          have bo : 0 ≤ ((k : Int) * 7 + dd) % 26 ∧ ((k : Int) * 7 + dd) % 26 < 26 := ⟨Int.emod_nonneg _ (by decide), Int.emod_lt_of_pos _ (by decide)⟩
          refine ⟨isL_app (isL_app (rp _) (isL_one bo.1 bo.2)) (rp _), ?_, ?_⟩ <;> rw [List.length_append, List.length_append, List.length_replicate, List.length_replicate, List.length_singleton] <;> omega)
  exact ⟨N, h1, h2, h3, e⟩
theorem ints_at {xs : List Int} {i : Int} (h0 : 0 ≤ i) (h : i.toNat < xs.length) : ixD (.list (xs.map .int)) (.int i) = some (.fz (.int xs[i.toNat])) := ixLi h0 (by rw [List.getElem?_map, List.getElem?_eq_getElem h]; rfl)
theorem read_book_ok (xs : List Int) (hl : xs.length = 41) (hx : ∀ x ∈ xs, 0 ≤ x) : ∃ B, Bk B ∧ F__law_read_book [.list (xs.map .int)] = .ok (.fz (bkD B)) := by
  have e0 : ixD (.list (xs.map .int)) (.int 0) = some (.fz (.int xs[0])) := ints_at (i := 0) (by decide) (by rw [hl]; decide)
  have hx0 : 0 ≤ xs[0] := hx _ (List.getElem_mem _)
  generalize xs[0] = x0 at e0 hx0
  have m1 : modD (.int x0) (.int 20) = some (.fz (.int (x0 % 20))) := tr_mod (by decide)
  have b1 : 0 ≤ x0 % 20 ∧ x0 % 20 < 20 := ⟨Int.emod_nonneg _ (by decide), Int.emod_lt_of_pos _ (by decide)⟩
  generalize x0 % 20 = xm at m1 b1
  have r1 : rng1 [.int (1 + xm)] = some (nds (List.range (1 + xm).toNat)) := rng1_i (by omega) (by omega)
  obtain ⟨rv, e, B, hB, rfl⟩ := go_run (ds := [.list (xs.map .int)]) (ρ := [some (.fz (.list (xs.map .int))), none, none, none, none, none, none]) (n := 7) (g := g__law_read_book) (T := fun v => ∃ B, Bk B ∧ v = .fz (bkD B)) rfl (by
    unfold g__law_read_book
    refine gs_asg (pv := .ow []) (ρ3 := [some (.fz (.list (xs.map .int))), some (.ow []), none, none, none, none, none]) (by walk_at "evp") rfl rfl ?_
    refine gs_for (fun i ρ => ∃ (B : List Wd) (t2 t3 t4 t5 t6 : Option PV), ρ = [some (.fz (.list (xs.map .int))), some (.ow (B.map wD)), t2, t3, t4, t5, t6] ∧ B.length ≤ i ∧ (1 ≤ i → 1 ≤ B.length) ∧ (∀ e ∈ B, GE e) ∧ (B.map (·.1)).Nodup) (ds := nds (List.range (1 + xm).toNat)) (ρ1 := [some (.fz (.list (xs.map .int))), some (.ow []), none, none, none, none, none]) (by walk_at "ev") ⟨[], none, none, none, none, none, rfl, Nat.le_refl _, (fun h => absurd h (by decide)), (fun e h => by cases h), List.nodup_nil⟩ ?_ ?_
    · rintro i d ρ hi ⟨B, t2, t3, t4, t5, t6, rfl, hBl, hB1, hG, hN⟩
      obtain ⟨k, hk, rfl⟩ := nds_get hi
      obtain ⟨hil, e⟩ := List.getElem?_eq_some_iff.mp hk
      rw [List.getElem_range] at e
      subst e
      rw [List.length_range] at hil
      have mu : mulE (.int 2) (nd i) = some (.fz (.int (2 * (i : Int)))) := trE_mulL ⟨by decide, by decide⟩
      have ix1 := ints_at (xs := xs) (i := 1 + 2 * (i : Int)) (by omega) (by omega)
      have hx1 : 0 ≤ xs[(1 + 2 * (i : Int)).toNat] := hx _ (List.getElem_mem _)
      generalize xs[(1 + 2 * (i : Int)).toNat] = y1 at ix1 hx1
      obtain ⟨w, hw, w1, w8, en⟩ := name_of_ok hx1
      have ix2 := ints_at (xs := xs) (i := 2 + 2 * (i : Int)) (by omega) (by omega)
      have hx2 : 0 ≤ xs[(2 + 2 * (i : Int)).toNat] := hx _ (List.getElem_mem _)
      generalize xs[(2 + 2 * (i : Int)).toNat] = y2 at ix2 hx2
      have d6 : divD (.int y2) (.int 6) = some (.fz (.int (y2 / 6))) := tr_div ⟨by decide, by decide⟩
      have m6 : modD (.int y2) (.int 6) = some (.fz (.int (y2 % 6))) := tr_mod (by decide)
      have b6 : 0 ≤ y2 % 6 ∧ y2 % 6 < 6 := ⟨Int.emod_nonneg _ (by decide), Int.emod_lt_of_pos _ (by decide)⟩
      have n6 : 0 ≤ y2 / 6 := Int.ediv_nonneg hx2 (by decide)
      generalize y2 / 6 = z6 at d6 n6
      generalize y2 % 6 = zm at m6 b6
      have r6 : rng1 [.int (1 + zm)] = some (nds (List.range (1 + zm).toNat)) := rng1_i (by omega) (by omega)
      refine ⟨_, rfl, ?_⟩
      refine gs_asg (pv := .fz (txD w)) (ρ3 := [some (.fz (.list (xs.map .int))), some (.ow (B.map wD)), some (.fz (nd i)), some (.fz (txD w)), t4, t5, t6]) (ev_cal (rv := .fz (txD w)) (by walk_at "ev") rfl rfl en) rfl rfl ?_
      refine gs_asg (pv := .ow []) (ρ3 := [some (.fz (.list (xs.map .int))), some (.ow (B.map wD)), some (.fz (nd i)), some (.fz (txD w)), some (.ow []), t5, t6]) (by walk_at "evp") rfl rfl ?_
      refine gs_asg (pv := .fz (.int z6)) (ρ3 := [some (.fz (.list (xs.map .int))), some (.ow (B.map wD)), some (.fz (nd i)), some (.fz (txD w)), some (.ow []), some (.fz (.int z6)), t6]) (by walk_at "evp") rfl rfl ?_
      refine gs_for (fun j ρ => ∃ (ss : List (List Int)) (r : Int) (t6 : Option PV), ρ = [some (.fz (.list (xs.map .int))), some (.ow (B.map wD)), some (.fz (nd i)), some (.fz (txD w)), some (.ow (ss.map kD)), some (.fz (.int r)), t6] ∧ ss.length = j ∧ 0 ≤ r ∧ ∀ ks ∈ ss, stB ks = true ∧ ks.length ≤ 12) (ds := nds (List.range (1 + zm).toNat)) (ρ1 := [some (.fz (.list (xs.map .int))), some (.ow (B.map wD)), some (.fz (nd i)), some (.fz (txD w)), some (.ow []), some (.fz (.int z6)), t6]) (by walk_at "ev") ⟨[], z6, t6, rfl, rfl, n6, fun ks h => by cases h⟩ ?_ ?_
      · rintro j d ρ hj ⟨ss, r, t6, rfl, hsl, hr, hst⟩
        obtain ⟨k, hk, rfl⟩ := nds_get hj
        have hjl : j < (1 + zm).toNat := by have := (List.getElem?_eq_some_iff.mp hk).1; simpa using this
        have b4 : 0 ≤ r % 4095 ∧ r % 4095 < 4095 := ⟨Int.emod_nonneg _ (by decide), Int.emod_lt_of_pos _ (by decide)⟩
        have m4 : modD (.int r) (.int 4095) = some (.fz (.int (r % 4095))) := tr_mod (by decide)
        have d4 : divD (.int r) (.int 4095) = some (.fz (.int (r / 4095))) := tr_div ⟨by decide, by decide⟩
        have n4 : 0 ≤ r / 4095 := Int.ediv_nonneg hr (by decide)
        obtain ⟨ks, k1, k2, ek⟩ := stroke_of_ok b4.1 b4.2
        have hlen : (ss.map kD).length < 1000000 := by rw [List.length_map]; omega
        refine ⟨_, rfl, ?_⟩
        refine gs_drop (ev_app (d := kD ks) (x := [some (.fz (.list (xs.map .int))), some (.ow (B.map wD)), some (.fz (nd i)), some (.fz (txD w)), some (.ow (ss.map kD ++ [kD ks])), some (.fz (.int r)), some (.fz (nd k))]) rfl (ev_cal (rv := .fz (kD ks)) (by walk_at "ev") rfl rfl ek) rfl rfl hlen rfl) ?_
        refine gl_asg (pv := .fz (.int (r / 4095))) (ρ3 := [some (.fz (.list (xs.map .int))), some (.ow (B.map wD)), some (.fz (nd i)), some (.fz (txD w)), some (.ow (ss.map kD ++ [kD ks])), some (.fz (.int (r / 4095))), some (.fz (nd k))]) (by walk_at "evp") rfl rfl ⟨ss ++ [ks], r / 4095, _, by rw [List.map_append]; rfl, by rw [List.length_append, hsl]; rfl, n4, fun k2' hk2 => ?_⟩
        rcases List.mem_append.mp hk2 with z | z
        · exact hst k2' z
        · rw [List.mem_singleton.mp z]; exact ⟨k1, k2⟩
      · rintro ρ ⟨ss, r, t6, rfl, hsl, hr, hst⟩
        rw [nds_len, List.length_range] at hsl
        have hBn : ∀ l ∈ B.map (·.1), ∀ c ∈ l, c < 1114112 := fun l hl c hc => by
          obtain ⟨e, he, rfl⟩ := List.mem_map.mp hl
          have := (hG e he).wd c hc
          omega
        have nin := nin_txs (w := w) (fun c hc => by have := hw c hc; omega) hBn
        have cmp : noEr (compP (gT 2 (gsC (gN 0) (gsC (gN 1) gsN))) qTrue (pVar 0) (B.map wD) [none, none] []) = .ok ((B.map (·.1)).map fun l => PyData.str (tx l)) := by
          rw [List.map_map]
          refine comp_mg (fun ρ => ∃ o p, ρ = [o, p]) B (by omega) ⟨none, none, rfl⟩ ?_
          rintro e _ ρ ⟨o, p, rfl⟩
          exact ⟨_, ct_t rfl rfl (ev_var rfl) rfl rfl, _, _, rfl⟩
        have hlen : (B.map wD).length < 1000000 := by rw [List.length_map]; omega
        refine go_if (b := !decide (w ∈ B.map (·.1))) (ev_bool (ev_opb (dx := .str (tx w)) (dy := .list ((B.map (·.1)).map fun l => PyData.str (tx l))) (ev_var rfl) (ev_comp (ds := B.map wD) rfl rfl cmp) rfl rfl nin) rfl) (fun q => ?_) fun q => ?_
        · have q : w ∉ B.map (·.1) := by simpa using q
          refine go_drop (ev_app (d := wD (w, ss)) (x := [some (.fz (.list (xs.map .int))), some (.ow (B.map wD ++ [wD (w, ss)])), some (.fz (nd i)), some (.fz (txD w)), some (.ow (ss.map kD)), some (.fz (.int r)), t6]) rfl (ev_tup (ds := [txD w, .tuple (ss.map kD)]) (ev_cons (ev_var rfl) (ev_cons (ev_cb (rv := .fz (.tuple (ss.map kD))) (ev_cons (ev_own rfl) ev_nil) rfl rfl) ev_nil)) rfl (Nat.le_of_ble_eq_true rfl)) rfl rfl hlen rfl) ⟨B ++ [(w, ss)], _, _, _, _, _, by rw [List.map_append]; rfl, by rw [List.length_append, List.length_singleton]; omega, fun _ => by rw [List.length_append, List.length_singleton]; omega, fun e he => ?_, ?_⟩
          · rcases List.mem_append.mp he with z | z
            · exact hG e z
            · rw [List.mem_singleton.mp z]; exact ⟨hw, w1, w8, by show 1 ≤ ss.length; omega, by show ss.length ≤ 6; omega, hst⟩
          · rw [List.map_append]; exact nd_snoc hN q
        · refine go_next ⟨B, _, _, _, _, _, rfl, by omega, fun _ => ?_, hG, hN⟩
          have q : w ∈ B.map (·.1) := by simpa using q
          have := List.length_pos_of_mem q
          rw [List.length_map] at this
          exact this
    · rintro ρ ⟨B, t2, t3, t4, t5, t6, rfl, hBl, hB1, hG, hN⟩
      rw [nds_len, List.length_range] at hBl hB1
      exact go_ret (pv := .fz (bkD B)) (ev_cb (rv := .fz (bkD B)) (ev_cons (ev_own rfl) ev_nil) rfl rfl) rfl ⟨B, ⟨hB1 (by omega), by omega, hG, hN⟩, rfl⟩)
  exact ⟨B, hB, e⟩
theorem pick4 {c : Int} (hc : 0 ≤ c) {s : Int} (h0 : 0 ≤ s) (h4 : s < 4) : ∃ x : Int, 0 ≤ x ∧ ixD (.list [.int (c % 2), .int c, .int c, .int c]) (.int s) = some (.fz (.int x)) := by
  obtain ⟨n, rfl⟩ : ∃ n : Nat, s = (n : Int) := ⟨s.toNat, by omega⟩
  match n, h4 with
  | 0, _ => exact ⟨c % 2, Int.emod_nonneg _ (by decide), ixL (i := 0) rfl⟩
  | 1, _ => exact ⟨c, hc, ixL (i := 1) rfl⟩
  | 2, _ => exact ⟨c, hc, ixL (i := 2) rfl⟩
  | 3, _ => exact ⟨c, hc, ixL (i := 3) rfl⟩
  | n + 4, h => omega
noncomputable abbrev gBk : FS := (sSeq (sAsg (pCal F__law_names 2 (aCons (pCal F__law_wide 2 (aCons (pCal F__law_cell 2 (aCons (pVar 0) (aCons (pOp addD (pVar 1) (pC (.int 1))) aNil))) (aCons (pC (.int 2)) aNil))) (aCons (pVar 4) aNil))) (gN 6))
  (sSeq (sAsg (pLst aNil) (gN 7))
  (sSeq (sFor (iRng rng1 (aCons (pVar 4) aNil)) (gN 8) (sSeq (sAsg (pCal F__law_wide 2 (aCons (pCal F__law_cell 2 (aCons (pVar 0) (aCons (pOp addD (pOp addD (pVar 1) (pC (.int 2))) (pOp modD (pVar 8) (pC (.int 6)))) aNil))) (aCons (pOp addD (pC (.int 3)) (pVar 8)) aNil))) (gN 9))
  (sSeq (sAsg (pLst aNil) (gN 10))
  (sSeq (sFor (iRng rng1 (aCons (pOp addD (pC (.int 1)) (pOp modD (pVar 9) (pVar 5))) aNil)) (gN 11) (sSeq (sAsg (pOp divD (pVar 9) (pC (.int 4))) (gN 9))
  (sDrop (pApp 10 (pCal F__law_stroke 2 (aCons (pOp ixD (pLst (aCons (pOp modD (pVar 9) (pC (.int 2))) (aCons (pVar 9) (aCons (pVar 9) (aCons (pVar 9) aNil))))) (pVar 3)) (aCons (pOp eqD (pVar 3) (pC (.int 1))) aNil)))))))
  (sDrop (pApp 7 (pTup (aCons (pOp ixD (pVar 6) (pVar 8)) (aCons (pCB tupD (aCons (pVar 10) aNil)) aNil)))))))))
  (sRet (pCB tupD (aCons (pVar 7) aNil))))))
theorem book_tail (ns : List Int) (hns : ns.length ≤ 63) {a : Int} (ha : 0 ≤ a) {x2 so : Int} (hs0 : 0 ≤ so) (hs4 : so < 4) {m : Nat} (hm1 : 1 ≤ m) (hm : m ≤ 20) {mo : Int} (hmo : 1 ≤ mo) (hmo6 : mo ≤ 6) {N C : PEnv → Prop} :
    Go (gBk [some (.fz (.list (ns.map .int))), some (.fz (.int a)), some (.fz (.int x2)), some (.fz (.int so)), some (.fz (nd m)), some (.fz (.int mo)), none, none, none, none, none, none]) N C (fun v => ∃ B, Bk B ∧ v = .fz (bkD B)) := by
  obtain ⟨c1, e1⟩ := cell_ok ns (a + 1) (by omega) hns
  obtain ⟨v1, hv1, ev1⟩ := wide_ok c1 2 (by decide) (by decide)
  obtain ⟨Nm, n1, n2, n3, en⟩ := names_dr hv1 hm
  have rm := rng1_nd (n := m) (by omega)
  have q1 : eqD (.int so) (.int 1) = some (.fz (.bool (decide (so = 1)))) := eqD_int _ _
  generalize hLD : PyData.list (ns.map PyData.int) = LD at *
  refine gs_asg (pv := .ow (Nm.map txD)) (ρ3 := [some (.fz LD), some (.fz (.int a)), some (.fz (.int x2)), some (.fz (.int so)), some (.fz (nd m)), some (.fz (.int mo)), some (.ow (Nm.map txD)), none, none, none, none, none]) (ev_cal (rv := .ow (Nm.map txD)) (by walk_at "ev") rfl rfl en) rfl rfl ?_
  refine gs_asg (pv := .ow []) (ρ3 := [some (.fz LD), some (.fz (.int a)), some (.fz (.int x2)), some (.fz (.int so)), some (.fz (nd m)), some (.fz (.int mo)), some (.ow (Nm.map txD)), some (.ow []), none, none, none, none]) (by walk_at "evp") rfl rfl ?_
  refine gs_for (fun i ρ => ∃ (B : List Wd) (t8 t9 t10 t11 : Option PV), ρ = [some (.fz LD), some (.fz (.int a)), some (.fz (.int x2)), some (.fz (.int so)), some (.fz (nd m)), some (.fz (.int mo)), some (.ow (Nm.map txD)), some (.ow (B.map wD)), t8, t9, t10, t11] ∧ B.map (·.1) = Nm.take i ∧ ∀ e ∈ B, GE e) (ds := nds (List.range m)) (ρ1 := [some (.fz LD), some (.fz (.int a)), some (.fz (.int x2)), some (.fz (.int so)), some (.fz (nd m)), some (.fz (.int mo)), some (.ow (Nm.map txD)), some (.ow []), none, none, none, none]) (ev_irng (ds := [nd m]) (ev_cons (ev_var rfl) ev_nil) rfl rm) ⟨[], none, none, none, none, rfl, rfl, fun e h => by cases h⟩ ?_ ?_
  · rintro i d ρ hi ⟨B, t8, t9, t10, t11, rfl, hBn, hG⟩
    obtain ⟨k, hk, rfl⟩ := nds_get hi
    obtain ⟨hil, e⟩ := List.getElem?_eq_some_iff.mp hk
    rw [List.getElem_range] at e
    subst e
    rw [List.length_range] at hil
    have hBl : B.length = i := by
      have := congrArg List.length hBn
      rw [List.length_map, List.length_take] at this
      omega
    have m6 : modD (nd i) (.int 6) = some (.fz (.int ((i : Int) % 6))) := tr_mod (by decide)
    have b6 : 0 ≤ (i : Int) % 6 := Int.emod_nonneg _ (by decide)
    obtain ⟨c2, e2⟩ := cell_ok ns (a + 2 + (i : Int) % 6) (by omega) hns
    rw [hLD] at e2
    obtain ⟨v2, hv2, ev2⟩ := wide_ok c2 (3 + (i : Int)) (by omega) (by omega)
    have mm : modD (.int v2) (.int mo) = some (.fz (.int (v2 % mo))) := tr_mod (by omega)
    have bm : 0 ≤ v2 % mo ∧ v2 % mo < mo := ⟨Int.emod_nonneg _ (by omega), Int.emod_lt_of_pos _ (by omega)⟩
    generalize v2 % mo = vm at mm bm
    have r6 : rng1 [.int (1 + vm)] = some (nds (List.range (1 + vm).toNat)) := rng1_i (by omega) (by omega)
    have hNi : i < Nm.length := by omega
    have ixn : ixD (.list (Nm.map txD)) (nd i) = some (.fz (txD Nm[i])) := ixL (by rw [List.getElem?_map, List.getElem?_eq_getElem hNi]; rfl)
    have hw := n3 _ (List.getElem_mem hNi)
    have tk : Nm.take (i + 1) = Nm.take i ++ [Nm[i]] := by rw [List.take_succ, List.getElem?_eq_getElem hNi]; rfl
    generalize Nm[i] = w at ixn hw tk
    refine ⟨_, rfl, ?_⟩
    refine gs_asg (pv := .fz (.int v2)) (ρ3 := [some (.fz LD), some (.fz (.int a)), some (.fz (.int x2)), some (.fz (.int so)), some (.fz (nd m)), some (.fz (.int mo)), some (.ow (Nm.map txD)), some (.ow (B.map wD)), some (.fz (nd i)), some (.fz (.int v2)), t10, t11]) (ev_cal (rv := .fz (.int v2)) (by walk_at "ev") rfl rfl ev2) rfl rfl ?_
    refine gs_asg (pv := .ow []) (ρ3 := [some (.fz LD), some (.fz (.int a)), some (.fz (.int x2)), some (.fz (.int so)), some (.fz (nd m)), some (.fz (.int mo)), some (.ow (Nm.map txD)), some (.ow (B.map wD)), some (.fz (nd i)), some (.fz (.int v2)), some (.ow []), t11]) (by walk_at "evp") rfl rfl ?_
    refine gs_for (fun j ρ => ∃ (ss : List (List Int)) (r : Int) (t11 : Option PV), ρ = [some (.fz LD), some (.fz (.int a)), some (.fz (.int x2)), some (.fz (.int so)), some (.fz (nd m)), some (.fz (.int mo)), some (.ow (Nm.map txD)), some (.ow (B.map wD)), some (.fz (nd i)), some (.fz (.int r)), some (.ow (ss.map kD)), t11] ∧ ss.length = j ∧ 0 ≤ r ∧ ∀ ks ∈ ss, stB ks = true ∧ ks.length ≤ 12) (ds := nds (List.range (1 + vm).toNat)) (ρ1 := [some (.fz LD), some (.fz (.int a)), some (.fz (.int x2)), some (.fz (.int so)), some (.fz (nd m)), some (.fz (.int mo)), some (.ow (Nm.map txD)), some (.ow (B.map wD)), some (.fz (nd i)), some (.fz (.int v2)), some (.ow []), t11]) (by walk_at "ev") ⟨[], v2, t11, rfl, rfl, hv2, fun ks h => by cases h⟩ ?_ ?_
    · rintro j d ρ hj ⟨ss, r, t11, rfl, hsl, hr, hst⟩
      obtain ⟨k, hk, rfl⟩ := nds_get hj
      have hjl : j < (1 + vm).toNat := by have := (List.getElem?_eq_some_iff.mp hk).1; simpa using this
      have d4 : divD (.int r) (.int 4) = some (.fz (.int (r / 4))) := tr_div ⟨by decide, by decide⟩
      have n4 : 0 ≤ r / 4 := Int.ediv_nonneg hr (by decide)
      generalize r / 4 = r4 at d4 n4
      have m2 : modD (.int r4) (.int 2) = some (.fz (.int (r4 % 2))) := tr_mod (by decide)
      obtain ⟨px, hpx, ixp⟩ := pick4 n4 hs0 hs4
      obtain ⟨ks, k1, k2, ek⟩ := stroke_dr hpx (decide (so = 1))
      have hlen : (ss.map kD).length < 1000000 := by rw [List.length_map]; omega
      refine ⟨_, rfl, ?_⟩
      refine gs_asg (pv := .fz (.int r4)) (ρ3 := [some (.fz LD), some (.fz (.int a)), some (.fz (.int x2)), some (.fz (.int so)), some (.fz (nd m)), some (.fz (.int mo)), some (.ow (Nm.map txD)), some (.ow (B.map wD)), some (.fz (nd i)), some (.fz (.int r4)), some (.ow (ss.map kD)), some (.fz (nd k))]) (by walk_at "evp") rfl rfl ?_
      refine go_drop (ev_app (d := kD ks) (x := [some (.fz LD), some (.fz (.int a)), some (.fz (.int x2)), some (.fz (.int so)), some (.fz (nd m)), some (.fz (.int mo)), some (.ow (Nm.map txD)), some (.ow (B.map wD)), some (.fz (nd i)), some (.fz (.int r4)), some (.ow (ss.map kD ++ [kD ks])), some (.fz (nd k))]) rfl (ev_cal (ds := [.int px, .bool (decide (so = 1))]) (rv := .fz (kD ks)) (ev_cons (ev_op (rv := .fz (.int px)) (ev_lst (ds := [.int (r4 % 2), .int r4, .int r4, .int r4]) (by walk_at "ev") rfl (Nat.le_of_ble_eq_true rfl)) (ev_var rfl) rfl rfl ixp) (ev_cons (ev_opb (dx := .int so) (dy := .int 1) (ev_var rfl) ev_c rfl rfl q1) ev_nil)) rfl rfl ek) rfl rfl hlen rfl) ⟨ss ++ [ks], r4, _, by rw [List.map_append]; rfl, by rw [List.length_append, hsl]; rfl, n4, fun k2' hk2 => ?_⟩
      rcases List.mem_append.mp hk2 with z | z
      · exact hst k2' z
      · rw [List.mem_singleton.mp z]; exact ⟨k1, k2⟩
    · rintro ρ ⟨ss, r, t11, rfl, hsl, hr, hst⟩
      rw [nds_len, List.length_range] at hsl
      have hlen : (B.map wD).length < 1000000 := by rw [List.length_map]; omega
      refine go_drop (ev_app (d := wD (w, ss)) (x := [some (.fz LD), some (.fz (.int a)), some (.fz (.int x2)), some (.fz (.int so)), some (.fz (nd m)), some (.fz (.int mo)), some (.ow (Nm.map txD)), some (.ow (B.map wD ++ [wD (w, ss)])), some (.fz (nd i)), some (.fz (.int r)), some (.ow (ss.map kD)), t11]) rfl (ev_tup (ds := [txD w, .tuple (ss.map kD)]) (ev_cons (ev_op (rv := .fz (txD w)) (ev_own rfl) (ev_var rfl) rfl rfl ixn) (ev_cons (ev_cb (rv := .fz (.tuple (ss.map kD))) (ev_cons (ev_own rfl) ev_nil) rfl rfl) ev_nil)) rfl (Nat.le_of_ble_eq_true rfl)) rfl rfl hlen rfl) ⟨B ++ [(w, ss)], _, _, _, _, by rw [List.map_append]; rfl, by rw [List.map_append, hBn, tk]; rfl, fun e he => ?_⟩
      rcases List.mem_append.mp he with z | z
      · exact hG e z
      · rw [List.mem_singleton.mp z]; exact ⟨hw.1, hw.2.1, hw.2.2, by show 1 ≤ ss.length; omega, by show ss.length ≤ 6; omega, hst⟩
  · rintro ρ ⟨B, t8, t9, t10, t11, rfl, hBn, hG⟩
    rw [nds_len, List.length_range] at hBn
    have hBn : B.map (·.1) = Nm := by rw [hBn, ← n1, List.take_length]
    have hBl : B.length = m := by
      have := congrArg List.length hBn
      rw [List.length_map] at this
      omega
    exact go_ret (pv := .fz (bkD B)) (ev_cb (rv := .fz (bkD B)) (ev_cons (ev_own rfl) ev_nil) rfl rfl) rfl ⟨B, ⟨by omega, by omega, hG, by rw [hBn]; exact n2⟩, rfl⟩
theorem book_ok (ns : List Int) (hns : ns.length ≤ 63) {a : Int} (ha : 0 ≤ a) : ∃ B, Bk B ∧ F__law_book [.list (ns.map .int), .int a] = .ok (.fz (bkD B)) := by
  obtain ⟨c0, e0⟩ := cell_ok ns a ha hns
  obtain ⟨xs, x1, x2, ex⟩ := stream_ok c0
  obtain ⟨B0, hB0, eb0⟩ := read_book_ok xs x1 x2
  obtain ⟨v0, hv0, ev0⟩ := wide_ok c0 1 (by decide) (by decide)
  have p18 := pow18
  have d6 : divD (.int v0) (.int 6) = some (.fz (.int (v0 / 6))) := tr_div ⟨by decide, by decide⟩
  have m4 : modD (.int (v0 / 6)) (.int 4) = some (.fz (.int (v0 / 6 % 4))) := tr_mod (by decide)
  have b4 : 0 ≤ v0 / 6 % 4 ∧ v0 / 6 % 4 < 4 := ⟨Int.emod_nonneg _ (by decide), Int.emod_lt_of_pos _ (by decide)⟩
  generalize v0 / 6 % 4 = so at m4 b4
  have m6 : modD (.int v0) (.int 6) = some (.fz (.int (v0 % 6))) := tr_mod (by decide)
  have b6 : 0 ≤ v0 % 6 ∧ v0 % 6 < 6 := ⟨Int.emod_nonneg _ (by decide), Int.emod_lt_of_pos _ (by decide)⟩
  generalize v0 % 6 = v6 at m6 b6
  have d24 : divD (.int v0) (.int 24) = some (.fz (.int (v0 / 24))) := tr_div ⟨by decide, by decide⟩
  have m8 : modD (.int (v0 / 24)) (.int 8) = some (.fz (.int (v0 / 24 % 8))) := tr_mod (by decide)
  have q8 : eqD (.int (v0 / 24 % 8)) (.int 3) = some (.fz (.bool (decide (v0 / 24 % 8 = 3)))) := eqD_int _ _
  generalize v0 / 24 % 8 = v8 at m8 q8
  have d192 : divD (.int v0) (.int 192) = some (.fz (.int (v0 / 192))) := tr_div ⟨by decide, by decide⟩
  have m9 : modD (.int (v0 / 192)) (.int 9) = some (.fz (.int (v0 / 192 % 9))) := tr_mod (by decide)
  have b9 : 0 ≤ v0 / 192 % 9 ∧ v0 / 192 % 9 < 9 := ⟨Int.emod_nonneg _ (by decide), Int.emod_lt_of_pos _ (by decide)⟩
  generalize v0 / 192 % 9 = v9 at m9 b9
  have f1 : (PyData.int (1 + v6)) = nd (1 + v6).toNat := by show PyData.int _ = .int _; congr 1; omega
  have f2 : (PyData.int (12 + v9)) = nd (12 + v9).toNat := by show PyData.int _ = .int _; congr 1; omega
  obtain ⟨rv, e, B, hB, rfl⟩ := go_run (ds := [.list (ns.map .int), .int a]) (ρ := [some (.fz (.list (ns.map .int))), some (.fz (.int a)), none, none, none, none, none, none, none, none, none, none]) (n := 12) (g := g__law_book) (T := fun v => ∃ B, Bk B ∧ v = .fz (bkD B)) rfl (by
    unfold g__law_book
    have tl := fun (x2 mo : Int) (m : Nat) (h1 : 1 ≤ m) (h2 : m ≤ 20) (h3 : 1 ≤ mo) (h4 : mo ≤ 6) => book_tail ns hns ha (x2 := x2) b4.1 b4.2 h1 h2 h3 h4 (N := fun _ => ∃ B, Bk B ∧ RV.fz PyData.none = .fz (bkD B)) (C := fun _ => False)
    refine gs_asg (pv := .fz (.int c0)) (ρ3 := [some (.fz (.list (ns.map .int))), some (.fz (.int a)), some (.fz (.int c0)), none, none, none, none, none, none, none, none, none]) (ev_cal (rv := .fz (.int c0)) (by walk_at "ev") rfl rfl e0) rfl rfl ?_
    refine gs_if (by walk_at "ev") (fun _ => ?_) fun _ => gs_next ?_
    · exact gs_ret (pv := .fz (bkD B0)) (ev_cal (ds := [.list (xs.map .int)]) (rv := .fz (bkD B0)) (ev_cons (ev_cal (rv := .ow (xs.map .int)) (by walk_at "ev") rfl rfl ex) ev_nil) rfl rfl eb0) rfl ⟨B0, hB0, rfl⟩
    refine gs_asg (pv := .fz (.int v0)) (ρ3 := [some (.fz (.list (ns.map .int))), some (.fz (.int a)), some (.fz (.int v0)), none, none, none, none, none, none, none, none, none]) (ev_cal (rv := .fz (.int v0)) (by walk_at "ev") rfl rfl ev0) rfl rfl ?_
    refine gs_asg (pv := .fz (.int so)) (ρ3 := [some (.fz (.list (ns.map .int))), some (.fz (.int a)), some (.fz (.int v0)), some (.fz (.int so)), none, none, none, none, none, none, none, none]) (by walk_at "evp") rfl rfl ?_
    refine gs_asg (pv := .fz (.int (1 + v6))) (ρ3 := [some (.fz (.list (ns.map .int))), some (.fz (.int a)), some (.fz (.int v0)), some (.fz (.int so)), some (.fz (.int (1 + v6))), none, none, none, none, none, none, none]) (by walk_at "evp") rfl rfl ?_
    refine gs_asg (pv := .fz (.int 4)) (ρ3 := [some (.fz (.list (ns.map .int))), some (.fz (.int a)), some (.fz (.int v0)), some (.fz (.int so)), some (.fz (.int (1 + v6))), some (.fz (.int 4)), none, none, none, none, none, none]) (by walk_at "evp") rfl rfl ?_
    refine gs_if (by walk_at "ev") (fun _ => ?_) fun _ => gs_next ?_
    · refine gs_seq ?_
      refine gs_asg (pv := .fz (.int (12 + v9))) (ρ3 := [some (.fz (.list (ns.map .int))), some (.fz (.int a)), some (.fz (.int v0)), some (.fz (.int so)), some (.fz (.int (12 + v9))), some (.fz (.int 4)), none, none, none, none, none, none]) (by walk_at "evp") rfl rfl ?_
      refine gs_asg (pv := .fz (.int 6)) (ρ3 := [some (.fz (.list (ns.map .int))), some (.fz (.int a)), some (.fz (.int v0)), some (.fz (.int so)), some (.fz (.int (12 + v9))), some (.fz (.int 6)), none, none, none, none, none, none]) (by walk_at "evp") rfl rfl ?_
      rw [f2]
      exact tl _ 6 _ (by omega) (by omega) (by decide) (by decide)
    · rw [f1]
      exact tl _ 4 _ (by omega) (by omega) (by decide) (by decide))
  exact ⟨B, hB, e⟩
theorem FitE.up {n : Nat} {e : Wd} (h : FitE n e) : FitE (n + 1) e := ⟨by have := h.wl; omega, h.wc, h.sl, h.kl⟩
theorem addE_t (xs ys : List D) (h : xs.length + ys.length ≤ 1000) : addE (.tuple xs) (.tuple ys) = some (.fz (.tuple (xs ++ ys))) := by
  cases xs with
  | nil => rfl
  | cons x r =>
    show (if x :: r ≠ [] ∧ (x :: r).length + ys.length ≤ 1000000 then some (RV.fz (.tuple (x :: r ++ ys))) else none) = _
    rw [if_pos ⟨List.cons_ne_nil x r, by omega⟩]
theorem cut_to (xs : List D) (p : Nat) : slE (.tuple xs) none (some (p : Int)) = some (.fz (.tuple (xs.take p))) := by
  show some (RV.fz (.tuple (cutD xs none (some (p : Int))))) = _
  unfold cutD
  rw [HT.sIx_none, List.drop_zero, HT.sIx_nat, Nat.sub_zero]
  congr 3
  rw [List.take_eq_take_iff]
  omega
theorem cut_from (xs : List D) (p : Nat) : slE (.tuple xs) (some (p : Int)) none = some (.fz (.tuple (xs.drop p))) := by
  show some (RV.fz (.tuple (cutD xs (some (p : Int)) none))) = _
  unfold cutD
  rw [HT.sIx_none, HT.sIx_nat]
  congr 3
  by_cases h : p ≤ xs.length
  · rw [Nat.min_eq_left h, List.take_of_length_le (by rw [List.length_drop]; exact Nat.le_refl _)]
  · rw [Nat.min_eq_right (by omega), Nat.sub_self, List.take_zero, List.drop_of_length_le (by omega)]
theorem fit_put {n : Nat} {B : List Wd} (hF : Fit n B) {e : Wd} (he : FitE (n + 1) e) {p q : Nat} (hpq : p ≤ q) (hl : p + 1 + (B.length - q) ≤ 20 + (n + 1)) : Fit (n + 1) (B.take p ++ [e] ++ B.drop q) := by
  refine ⟨?_, fun x hx => ?_⟩
  · rw [List.length_append, List.length_append, List.length_take, List.length_drop, List.length_singleton]
    omega
  · rcases List.mem_append.mp hx with z | z
    · rcases List.mem_append.mp z with z | z
      · exact (hF.en x (List.mem_of_mem_take z)).up
      · rw [List.mem_singleton.mp z]; exact he
    · exact (hF.en x (List.mem_of_mem_drop z)).up
noncomputable abbrev gFin : FS := (sRet (pOp addE (pOp addE (pSl slE (pVar 0) oNone (oSome (pVar 5))) (pTup (aCons (pTup (aCons (pVar 6) (aCons (pVar 7) aNil))) aNil))) (pSl slE (pVar 0) (oSome (pOp addE (pVar 5) (pC (.int 1)))) oNone)))
section
variable {n : Nat} {B : List Wd}
theorem put_ok (hl : B.length ≤ 400) (e : Wd) (p q : Nat) : addE (.tuple ((B.map wD).take p)) (.tuple [wD e]) = some (.fz (.tuple ((B.take p ++ [e]).map wD))) ∧ addE (.tuple ((B.take p ++ [e]).map wD)) (.tuple ((B.map wD).drop q)) = some (.fz (bkD (B.take p ++ [e] ++ B.drop q))) := by
  constructor
  · rw [addE_t _ _ (by rw [List.length_take, List.length_map]; show _ + 1 ≤ _; omega), List.map_append, List.map_take]; rfl
  · rw [addE_t _ _ (by rw [List.length_map, List.length_append, List.length_drop, List.length_map, List.length_take, List.length_singleton]; omega), List.map_append, ← List.map_drop, ← List.map_append]
    unfold bkD
    rw [List.map_append, List.map_append, List.map_append]
theorem fin_go (hF : Fit n B) (hn : n ≤ 10) {x1 x2 x3 x4 x8 x9 x10 : Option PV} {a : Nat} (ha : a < B.length) {e : Wd} (he : FitE (n + 1) e) {N C : PEnv → Prop} :
    Go (gFin [some (.fz (bkD B)), x1, x2, x3, x4, some (.fz (nd a)), some (.fz (txD e.1)), some (.fz (.tuple (e.2.map kD))), x8, x9, x10]) N C (fun v => ∃ B', Fit (n + 1) B' ∧ v = .fz (bkD B')) := by
  have len := hF.len
  obtain ⟨p1, p2⟩ := put_ok (B := B) (by omega) e a (a + 1)
  have c1 := cut_to (B.map wD) a
  have c2 := cut_from (B.map wD) (a + 1)
  have a1 : addE (nd a) (.int 1) = some (.fz (nd (a + 1))) := by show some (RV.fz (.int ((a : Int) + 1))) = some (RV.fz (.int ((a + 1 : Nat) : Int))); congr 3
  have fp := fit_put hF he (p := a) (q := a + 1) (by omega) (by omega)
  generalize (B.map wD).take a = t1 at *
  generalize (B.map wD).drop (a + 1) = t2 at *
  generalize B.take a ++ [e] ++ B.drop (a + 1) = B' at *
  generalize (B.take a ++ [e]).map wD = t3 at *
  refine go_ret (pv := .fz (bkD B')) (ev_op (rv := .fz (bkD B')) (ev_op (rv := .fz (.tuple t3)) (ev_sl (rv := .fz (.tuple t1)) (ev_var rfl) ev_onone (ev_osome (ev_var rfl) rfl) rfl c1) (ev_tup (ds := [wD e]) (ev_cons (ev_tup (ds := [txD e.1, .tuple (e.2.map kD)]) (ev_cons (ev_var rfl) (ev_cons (ev_var rfl) ev_nil)) rfl (Nat.le_of_ble_eq_true rfl)) ev_nil) rfl (Nat.le_of_ble_eq_true rfl)) rfl rfl p1) (ev_sl (rv := .fz (.tuple t2)) (ev_var rfl) (ev_osome (ev_op (rv := .fz (nd (a + 1))) (ev_var rfl) ev_c rfl rfl a1) rfl) ev_onone rfl c2) rfl rfl p2) rfl ⟨B', fp, rfl⟩
theorem s_words : (PyData.str "abcdefgh" = txD [97, 98, 99, 100, 101, 102, 103, 104]) ∧ (PyData.str "A" = txD [65]) ∧ (PyData.str "3" = txD [51]) ∧ (PyData.str "+" = txD [43]) ∧ (PyData.str " " = txD [32]) ∧ (PyData.str "qqqqqqq" = txD [113, 113, 113, 113, 113, 113, 113]) := by
  refine ⟨?_, ?_, ?_, ?_, ?_, ?_⟩ <;> (unfold txD; congr 1)
theorem word_ch {w : List Nat} (hl : w.length ≤ 100) (hc : ∀ c ∈ w, c < 1114112) {j : Int} (h0 : 0 ≤ j) (h6 : j < 6) {x0 x1 x2 x3 x4 x5 x7 x8 x9 x10 : Option PV} {fj : FE} (hj : fj [x0, x1, x2, x3, x4, x5, some (.fz (txD w)), x7, x8, x9, x10] = .ok (.fz (.int j), [x0, x1, x2, x3, x4, x5, some (.fz (txD w)), x7, x8, x9, x10])) :
    ∃ v : List Nat, v.length ≤ w.length + 8 ∧ (∀ c ∈ v, c < 1114112) ∧ (pOp ixD (pLst (aCons (pC (.str "")) (aCons (pOp addS (pVar 6) (pC (.str "abcdefgh"))) (aCons (pOp addS (pSl sliceS (pVar 6) oNone (oSome (pC (.int 7)))) (pC (.str "A"))) (aCons (pOp addS (pSl sliceS (pVar 6) oNone (oSome (pC (.int 7)))) (pC (.str "3"))) (aCons (pOp addS (pSl sliceS (pVar 6) oNone (oSome (pC (.int 7)))) (pC (.str "+"))) (aCons (pOp addS (pC (.str " ")) (pSl sliceS (pVar 6) oNone (oSome (pC (.int 7))))) aNil))))))) fj) [x0, x1, x2, x3, x4, x5, some (.fz (txD w)), x7, x8, x9, x10] = .ok (.fz (txD v), [x0, x1, x2, x3, x4, x5, some (.fz (txD w)), x7, x8, x9, x10]) := by
  obtain ⟨m, m1, m2, m3⟩ := sliceS_tx (l := w) (by omega) none (some 7)
  obtain ⟨s1, s2, s3, s4, s5, _⟩ := s_words
  rw [s_empty, s1, s2, s3, s4, s5]
  have a1 := addS_tx (a := w) (b := [97, 98, 99, 100, 101, 102, 103, 104]) (by show _ + 8 ≤ _; omega)
  have a2 := addS_tx (a := m) (b := [65]) (by show _ + 1 ≤ _; omega)
  have a3 := addS_tx (a := m) (b := [51]) (by show _ + 1 ≤ _; omega)
  have a4 := addS_tx (a := m) (b := [43]) (by show _ + 1 ≤ _; omega)
  have a5 := addS_tx (a := [32]) (b := m) (by show 1 + _ ≤ _; omega)
  have mc : ∀ (v : List Nat), (∀ c ∈ v, c < 1114112) → ∀ c ∈ m ++ v, c < 1114112 := fun v hv c h => by
    rcases List.mem_append.mp h with z | z
    · exact hc c (m2 c z)
    · exact hv c z
  obtain ⟨v, hv1, hv2, ix⟩ : ∃ v : List Nat, v.length ≤ w.length + 8 ∧ (∀ c ∈ v, c < 1114112) ∧ ixD (.list [txD [], txD (w ++ [97, 98, 99, 100, 101, 102, 103, 104]), txD (m ++ [65]), txD (m ++ [51]), txD (m ++ [43]), txD ([32] ++ m)]) (.int j) = some (.fz (txD v)) := by
    obtain ⟨k, rfl⟩ : ∃ k : Nat, j = (k : Int) := ⟨j.toNat, by omega⟩
    match k, h6 with
    | 0, _ => exact ⟨[], Nat.zero_le _, (fun c h => by cases h), ixL (i := 0) rfl⟩
    | 1, _ =>
      refine ⟨w ++ [97, 98, 99, 100, 101, 102, 103, 104], by rw [List.length_append]; exact Nat.le_refl _, fun c h => ?_, ixL (i := 1) rfl⟩
      rcases List.mem_append.mp h with z | z
      · exact hc c z
      · exact (show ∀ c ∈ [97, 98, 99, 100, 101, 102, 103, 104], c < 1114112 by decide) c z
    | 2, _ => exact ⟨m ++ [65], by rw [List.length_append]; show _ + 1 ≤ _; omega, mc _ (by decide), ixL (i := 2) rfl⟩
    | 3, _ => exact ⟨m ++ [51], by rw [List.length_append]; show _ + 1 ≤ _; omega, mc _ (by decide), ixL (i := 3) rfl⟩
    | 4, _ => exact ⟨m ++ [43], by rw [List.length_append]; show _ + 1 ≤ _; omega, mc _ (by decide), ixL (i := 4) rfl⟩
    | 5, _ =>
      refine ⟨[32] ++ m, by rw [List.length_append]; show 1 + _ ≤ _; omega, fun c h => ?_, ixL (i := 5) rfl⟩
      rcases List.mem_append.mp h with z | z
      · exact (show ∀ c ∈ [32], c < 1114112 by decide) c z
      · exact hc c (m2 c z)
    | k + 6, h => omega
  refine ⟨v, hv1, hv2, ?_⟩
  have sl : (pSl sliceS (pVar 6) oNone (oSome (pC (.int 7)))) [x0, x1, x2, x3, x4, x5, some (.fz (txD w)), x7, x8, x9, x10] = .ok (.fz (txD m), [x0, x1, x2, x3, x4, x5, some (.fz (txD w)), x7, x8, x9, x10]) := ev_sl (rv := .fz (txD m)) (ev_var rfl) ev_onone (ev_osome ev_c rfl) rfl m3
  exact ev_op (rv := .fz (txD v)) (ev_lst (ds := [txD [], txD (w ++ [97, 98, 99, 100, 101, 102, 103, 104]), txD (m ++ [65]), txD (m ++ [51]), txD (m ++ [43]), txD ([32] ++ m)]) (ev_cons ev_c (ev_cons (ev_op (rv := .fz (txD _)) (ev_var rfl) ev_c rfl rfl a1) (ev_cons (ev_op (rv := .fz (txD _)) sl ev_c rfl rfl a2) (ev_cons (ev_op (rv := .fz (txD _)) sl ev_c rfl rfl a3) (ev_cons (ev_op (rv := .fz (txD _)) sl ev_c rfl rfl a4) (ev_cons (ev_op (rv := .fz (txD _)) ev_c sl rfl rfl a5) ev_nil)))))) rfl (Nat.le_of_ble_eq_true rfl)) hj rfl rfl ix
noncomputable abbrev g3 : FS := (sIf (pBool (pOp eqD (pVar 1) (pC (.int 3)))) (sAsg (pOp ixD (pLst (aCons (pC (.str "")) (aCons (pOp addS (pVar 6) (pC (.str "abcdefgh"))) (aCons (pOp addS (pSl sliceS (pVar 6) oNone (oSome (pC (.int 7)))) (pC (.str "A"))) (aCons (pOp addS (pSl sliceS (pVar 6) oNone (oSome (pC (.int 7)))) (pC (.str "3"))) (aCons (pOp addS (pSl sliceS (pVar 6) oNone (oSome (pC (.int 7)))) (pC (.str "+"))) (aCons (pOp addS (pC (.str " ")) (pSl sliceS (pVar 6) oNone (oSome (pC (.int 7))))) aNil))))))) (pOp modD (pVar 2) (pC (.int 6)))) (gN 6)) sNext)
noncomputable abbrev g4 : FS := (sIf (pBool (pOp eqD (pVar 1) (pC (.int 4)))) (sSeq (sAsg (pSl slE (pOp addE (pVar 7) (pTup (aCons (pTup (aCons (pC (.int 0)) aNil)) (aCons (pTup (aCons (pC (.int 1)) aNil)) (aCons (pTup (aCons (pC (.int 2)) aNil)) (aCons (pTup (aCons (pC (.int 3)) aNil)) (aCons (pTup (aCons (pC (.int 4)) aNil)) (aCons (pTup (aCons (pC (.int 5)) aNil)) aNil)))))))) oNone (oSome (pOp addE (pC (.int 6)) (pOp modD (pOp divD (pVar 2) (pC (.int 3))) (pC (.int 2)))))) (gN 9))
  (sAsg (pOp ixD (pLst (aCons (pTup aNil) (aCons (pVar 9) (aCons (pVar 9) aNil)))) (pOp modD (pVar 2) (pC (.int 3)))) (gN 7))) sNext)
noncomputable abbrev g5 : FS := (sIf (pBool (pOp eqD (pVar 1) (pC (.int 5)))) (sSeq (sAsg (pOp ixD (pLst (aCons (pTup aNil) (aCons (pTup (aCons (pC (.int 1)) (aCons (pC (.int 0)) aNil))) (aCons (pTup (aCons (pC (.int 3)) (aCons (pC (.int 3)) aNil))) (aCons (pTup (aCons (pUn negD (pC (.int 1))) (aCons (pC (.int 2)) aNil))) (aCons (pTup (aCons (pC (.int 2)) (aCons (pC (.int 12)) aNil))) (aCons (pTup (aCons (pC (.int 12)) aNil)) aNil))))))) (pOp modD (pVar 2) (pC (.int 6)))) (gN 10))
  (sSeq (sAsg (pOp modD (pOp divD (pVar 2) (pC (.int 6))) (pCB max2D (aCons (pC (.int 1)) (aCons (pCB lenD (aCons (pVar 7) aNil)) aNil)))) (gN 8))
  (sAsg (pOp addE (pOp addE (pSl slE (pVar 7) oNone (oSome (pVar 8))) (pTup (aCons (pVar 10) aNil))) (pSl slE (pVar 7) (oSome (pOp addE (pVar 8) (pC (.int 1)))) oNone)) (gN 7)))) sNext)
theorem way_eq (w c : Nat) : eqD (nd w) (.int (c : Int)) = some (.fz (.bool (decide (w = c)))) := eqD_nd w c
theorem tail_go (hF : Fit n B) (hn : n ≤ 10) {w : Nat} {y : Int} (hy : 0 ≤ y) {x3 x4 x8 x9 x10 : Option PV} {a : Nat} (ha : a < B.length) {e : Wd} (he : FitE n e) {N C : PEnv → Prop} :
    Go (sSeq g3 (sSeq g4 (sSeq g5 gFin)) [some (.fz (bkD B)), some (.fz (nd w)), some (.fz (.int y)), x3, x4, some (.fz (nd a)), some (.fz (txD e.1)), some (.fz (.tuple (e.2.map kD))), x8, x9, x10]) N C (fun v => ∃ B', Fit (n + 1) B' ∧ v = .fz (bkD B')) := by
  have q3 := way_eq w 3
  have q4 := way_eq w 4
  have q5 := way_eq w 5
  have wl := he.wl
  have sl := he.sl
  refine gs_if (b := decide (w = 3)) (ev_bool (ev_opb (ev_var rfl) ev_c rfl rfl q3) rfl) (fun w3 => ?_) fun w3 => gs_next ?_
  · have w3 := of_decide_eq_true w3
    have m6 : modD (.int y) (.int 6) = some (.fz (.int (y % 6))) := tr_mod (by decide)
    obtain ⟨v, hv1, hv2, ev⟩ := word_ch (w := e.1) (by omega) he.wc (j := y % 6) (Int.emod_nonneg _ (by decide)) (Int.emod_lt_of_pos _ (by decide)) (fj := pOp modD (pVar 2) (pC (.int 6))) (x0 := some (.fz (bkD B))) (x1 := some (.fz (nd w))) (x2 := some (.fz (.int y))) (x3 := x3) (x4 := x4) (x5 := some (.fz (nd a))) (x7 := some (.fz (.tuple (e.2.map kD)))) (x8 := x8) (x9 := x9) (x10 := x10) (ev_op (rv := .fz (.int (y % 6))) (ev_var rfl) ev_c rfl rfl m6)
    refine gs_asg (pv := .fz (txD v)) (ρ3 := [some (.fz (bkD B)), some (.fz (nd w)), some (.fz (.int y)), x3, x4, some (.fz (nd a)), some (.fz (txD v)), some (.fz (.tuple (e.2.map kD))), x8, x9, x10]) ev rfl rfl ?_
    rw [decide_eq_false (show ¬ w = 4 by omega)] at q4
    rw [decide_eq_false (show ¬ w = 5 by omega)] at q5
    refine gs_if (b := false) (ev_bool (ev_opb (ev_var rfl) ev_c rfl rfl q4) rfl) (fun z => by cases z) fun _ => gs_next ?_
    refine gs_if (b := false) (ev_bool (ev_opb (ev_var rfl) ev_c rfl rfl q5) rfl) (fun z => by cases z) fun _ => gs_next ?_
    exact fin_go hF hn ha (e := (v, e.2)) ⟨by show v.length ≤ _; omega, hv2, sl, he.kl⟩
  refine gs_if (b := decide (w = 4)) (ev_bool (ev_opb (ev_var rfl) ev_c rfl rfl q4) rfl) (fun w4 => ?_) fun w4 => gs_next ?_
  · have w4 := of_decide_eq_true w4
    have d3 : divD (.int y) (.int 3) = some (.fz (.int (y / 3))) := tr_div ⟨by decide, by decide⟩
    have m2 : modD (.int (y / 3)) (.int 2) = some (.fz (.int (y / 3 % 2))) := tr_mod (by decide)
    have m3 : modD (.int y) (.int 3) = some (.fz (.int (y % 3))) := tr_mod (by decide)
    have b2 : 0 ≤ y / 3 % 2 ∧ y / 3 % 2 < 2 := ⟨Int.emod_nonneg _ (by decide), Int.emod_lt_of_pos _ (by decide)⟩
    have b3 : 0 ≤ y % 3 ∧ y % 3 < 3 := ⟨Int.emod_nonneg _ (by decide), Int.emod_lt_of_pos _ (by decide)⟩
    generalize y / 3 % 2 = z2 at m2 b2
    generalize y % 3 = z3 at m3 b3
    have a6 : addE (.int 6) (.int z2) = some (.fz (nd (6 + z2).toNat)) := by
      show some (RV.fz (.int (6 + z2))) = some (RV.fz (.int ((6 + z2).toNat : Int)))
      congr 3
      omega
    have ad := addE_t (e.2.map kD) ([[0], [1], [2], [3], [4], [5]].map kD) (by rw [List.length_map]; show _ + 6 ≤ _; omega)
    rw [← List.map_append] at ad
    have ct := cut_to ((e.2 ++ [[0], [1], [2], [3], [4], [5]]).map kD) (6 + z2).toNat
    rw [← List.map_take] at ct
    have hf : ((e.2 ++ [[0], [1], [2], [3], [4], [5]]).take (6 + z2).toNat).length ≤ 7 := by rw [List.length_take]; omega
    have hfk : ∀ ks ∈ (e.2 ++ [[0], [1], [2], [3], [4], [5]]).take (6 + z2).toNat, ks.length ≤ 12 := fun ks hk => by
      rcases List.mem_append.mp (List.mem_of_mem_take hk) with z | z
      · exact he.kl ks z
      · exact (show ∀ ks ∈ ([[0], [1], [2], [3], [4], [5]] : List (List Int)), ks.length ≤ 12 by decide) ks z
    generalize (e.2 ++ [[0], [1], [2], [3], [4], [5]]).take (6 + z2).toNat = fu at ct hf hfk
    generalize (e.2 ++ [[0], [1], [2], [3], [4], [5]]).map kD = em at ad ct
    obtain ⟨ss, h1, h2, ix⟩ : ∃ ss : List (List Int), ss.length ≤ 7 ∧ (∀ ks ∈ ss, ks.length ≤ 12) ∧ ixD (.list [.tuple [], .tuple (fu.map kD), .tuple (fu.map kD)]) (.int z3) = some (.fz (.tuple (ss.map kD))) := by
      obtain ⟨k, rfl⟩ : ∃ k : Nat, z3 = (k : Int) := ⟨z3.toNat, by omega⟩
      match k, b3 with
      | 0, _ => exact ⟨[], by decide, (fun ks h => by cases h), ixL (i := 0) rfl⟩
      | 1, _ => exact ⟨fu, hf, hfk, ixL (i := 1) rfl⟩
      | 2, _ => exact ⟨fu, hf, hfk, ixL (i := 2) rfl⟩
      | k + 3, h => omega
    refine gs_seq ?_
    refine gs_asg (pv := .fz (.tuple (fu.map kD))) (ρ3 := [some (.fz (bkD B)), some (.fz (nd w)), some (.fz (.int y)), x3, x4, some (.fz (nd a)), some (.fz (txD e.1)), some (.fz (.tuple (e.2.map kD))), x8, some (.fz (.tuple (fu.map kD))), x10]) (ev_sl (rv := .fz (.tuple (fu.map kD))) (ev_op (rv := .fz (.tuple em)) (dy := .tuple ([[0], [1], [2], [3], [4], [5]].map kD)) (ev_var rfl) (by walk_at "ev") rfl rfl ad) ev_onone (ev_osome (ev_op (rv := .fz (nd (6 + z2).toNat)) ev_c (by walk_at "ev") rfl rfl a6) rfl) rfl ct) rfl rfl ?_
    refine gs_asg (pv := .fz (.tuple (ss.map kD))) (ρ3 := [some (.fz (bkD B)), some (.fz (nd w)), some (.fz (.int y)), x3, x4, some (.fz (nd a)), some (.fz (txD e.1)), some (.fz (.tuple (ss.map kD))), x8, some (.fz (.tuple (fu.map kD))), x10]) (ev_op (rv := .fz (.tuple (ss.map kD))) (ev_lst (ds := [.tuple [], .tuple (fu.map kD), .tuple (fu.map kD)]) (ev_cons (ev_tup (ds := []) ev_nil rfl (Nat.le_of_ble_eq_true rfl)) (ev_cons (ev_var rfl) (ev_cons (ev_var rfl) ev_nil))) rfl (Nat.le_of_ble_eq_true rfl)) (by walk_at "ev") rfl rfl ix) rfl rfl ?_
    rw [decide_eq_false (show ¬ w = 5 by omega)] at q5
    refine gs_if (b := false) (ev_bool (ev_opb (ev_var rfl) ev_c rfl rfl q5) rfl) (fun z => by cases z) fun _ => gs_next ?_
    exact fin_go hF hn ha (e := (e.1, ss)) ⟨by show e.1.length ≤ _; omega, he.wc, h1, h2⟩
  refine gs_if (b := decide (w = 5)) (ev_bool (ev_opb (ev_var rfl) ev_c rfl rfl q5) rfl) (fun w5 => ?_) fun w5 => gs_next ?_
  · have m6 : modD (.int y) (.int 6) = some (.fz (.int (y % 6))) := tr_mod (by decide)
    have d6 : divD (.int y) (.int 6) = some (.fz (.int (y / 6))) := tr_div ⟨by decide, by decide⟩
    have b6 : 0 ≤ y % 6 ∧ y % 6 < 6 := ⟨Int.emod_nonneg _ (by decide), Int.emod_lt_of_pos _ (by decide)⟩
    generalize y % 6 = z6 at m6 b6
    obtain ⟨sm, h1, ix⟩ : ∃ sm : List Int, sm.length ≤ 12 ∧ ixD (.list [.tuple [], .tuple [.int 1, .int 0], .tuple [.int 3, .int 3], .tuple [.int (-1), .int 2], .tuple [.int 2, .int 12], .tuple [.int 12]]) (.int z6) = some (.fz (kD sm)) := by
      obtain ⟨k, rfl⟩ : ∃ k : Nat, z6 = (k : Int) := ⟨z6.toNat, by omega⟩
      match k, b6 with
      | 0, _ => exact ⟨[], by decide, ixL (i := 0) rfl⟩
      | 1, _ => exact ⟨[1, 0], by decide, ixL (i := 1) rfl⟩
      | 2, _ => exact ⟨[3, 3], by decide, ixL (i := 2) rfl⟩
      | 3, _ => exact ⟨[-1, 2], by decide, ixL (i := 3) rfl⟩
      | 4, _ => exact ⟨[2, 12], by decide, ixL (i := 4) rfl⟩
      | 5, _ => exact ⟨[12], by decide, ixL (i := 5) rfl⟩
      | k + 6, h => omega
    have ln : lenD [.tuple (e.2.map kD)] = some (.fz (.int (e.2.length : Int))) := by
      show some (RV.fz (.int ((e.2.map kD).length : Int))) = _
      rw [List.length_map]
    have mx : max2D [.int 1, .int (e.2.length : Int)] = some (.fz (.int (if (e.2.length : Int) > 1 then (e.2.length : Int) else 1))) := rfl
    have bx : 1 ≤ (if (e.2.length : Int) > 1 then (e.2.length : Int) else 1) ∧ (if (e.2.length : Int) > 1 then (e.2.length : Int) else 1) ≤ 7 := by split <;> omega
    have bxe : 1 ≤ e.2.length → (if (e.2.length : Int) > 1 then (e.2.length : Int) else 1) ≤ (e.2.length : Int) := fun h => by split <;> omega
    generalize (if (e.2.length : Int) > 1 then (e.2.length : Int) else 1) = mv at mx bx bxe
    have mp : modD (.int (y / 6)) (.int mv) = some (.fz (.int (y / 6 % mv))) := tr_mod (by omega)
    have bp : 0 ≤ y / 6 % mv ∧ y / 6 % mv < mv := ⟨Int.emod_nonneg _ (by omega), Int.emod_lt_of_pos _ (by omega)⟩
    generalize y / 6 % mv = pl at mp bp
    obtain ⟨p, rfl⟩ : ∃ p : Nat, pl = (p : Int) := ⟨pl.toNat, by omega⟩
    have c1 := cut_to (e.2.map kD) p
    have c2 := cut_from (e.2.map kD) (p + 1)
    have p1 := addE_t ((e.2.map kD).take p) [kD sm] (by rw [List.length_take, List.length_map]; show _ + 1 ≤ _; omega)
    have p2 := addE_t ((e.2.map kD).take p ++ [kD sm]) ((e.2.map kD).drop (p + 1)) (by rw [List.length_append, List.length_take, List.length_drop, List.length_map]; show _ + 1 + _ ≤ _; omega)
    have a1 : addE (nd p) (.int 1) = some (.fz (nd (p + 1))) := by show some (RV.fz (.int ((p : Int) + 1))) = some (RV.fz (.int ((p + 1 : Nat) : Int))); congr 3
    have eq : (e.2.map kD).take p ++ [kD sm] ++ (e.2.map kD).drop (p + 1) = (e.2.take p ++ [sm] ++ e.2.drop (p + 1)).map kD := by
      rw [List.map_append, List.map_append, List.map_take, List.map_drop]; rfl
    rw [eq] at p2
    have hl7 : (e.2.take p ++ [sm] ++ e.2.drop (p + 1)).length ≤ 7 := by
      rw [List.length_append, List.length_append, List.length_take, List.length_drop, List.length_singleton]
      by_cases h : 1 ≤ e.2.length
      · have := bxe h; omega
      · omega
    have hk12 : ∀ ks ∈ e.2.take p ++ [sm] ++ e.2.drop (p + 1), ks.length ≤ 12 := fun ks hk => by
      rcases List.mem_append.mp hk with z | z
      · rcases List.mem_append.mp z with z | z
        · exact he.kl ks (List.mem_of_mem_take z)
        · rw [List.mem_singleton.mp z]; exact h1
      · exact he.kl ks (List.mem_of_mem_drop z)
    generalize e.2.take p ++ [sm] ++ e.2.drop (p + 1) = ss at *
    generalize (e.2.map kD).take p = t1 at *
    generalize (e.2.map kD).drop (p + 1) = t2 at *
    refine gs_seq ?_
    refine gs_asg (pv := .fz (kD sm)) (ρ3 := [some (.fz (bkD B)), some (.fz (nd w)), some (.fz (.int y)), x3, x4, some (.fz (nd a)), some (.fz (txD e.1)), some (.fz (.tuple (e.2.map kD))), x8, x9, some (.fz (kD sm))]) (ev_op (rv := .fz (kD sm)) (ev_lst (ds := [.tuple [], .tuple [.int 1, .int 0], .tuple [.int 3, .int 3], .tuple [.int (-1), .int 2], .tuple [.int 2, .int 12], .tuple [.int 12]]) (ev_cons (ev_tup (ds := []) ev_nil rfl (Nat.le_of_ble_eq_true rfl)) (by walk_at "ev")) rfl (Nat.le_of_ble_eq_true rfl)) (by walk_at "ev") rfl rfl ix) rfl rfl ?_
    refine gs_seq ?_
    refine gs_asg (pv := .fz (nd p)) (ρ3 := [some (.fz (bkD B)), some (.fz (nd w)), some (.fz (.int y)), x3, x4, some (.fz (nd a)), some (.fz (txD e.1)), some (.fz (.tuple (e.2.map kD))), some (.fz (nd p)), x9, some (.fz (kD sm))]) (ev_op (rv := .fz (nd p)) (by walk_at "ev") (ev_cb (rv := .fz (.int mv)) (ev_cons ev_c (ev_cons (ev_cb (rv := .fz (.int (e.2.length : Int))) (ev_cons (ev_var rfl) ev_nil) rfl ln) ev_nil)) rfl mx) rfl rfl mp) rfl rfl ?_
    refine gs_asg (pv := .fz (.tuple (ss.map kD))) (ρ3 := [some (.fz (bkD B)), some (.fz (nd w)), some (.fz (.int y)), x3, x4, some (.fz (nd a)), some (.fz (txD e.1)), some (.fz (.tuple (ss.map kD))), some (.fz (nd p)), x9, some (.fz (kD sm))]) (ev_op (rv := .fz (.tuple (ss.map kD))) (ev_op (rv := .fz (.tuple (t1 ++ [kD sm]))) (ev_sl (rv := .fz (.tuple t1)) (ev_var rfl) ev_onone (ev_osome (ev_var rfl) rfl) rfl c1) (ev_tup (ds := [kD sm]) (ev_cons (ev_var rfl) ev_nil) rfl (Nat.le_of_ble_eq_true rfl)) rfl rfl p1) (ev_sl (rv := .fz (.tuple t2)) (ev_var rfl) (ev_osome (ev_op (rv := .fz (nd (p + 1))) (ev_var rfl) ev_c rfl rfl a1) rfl) ev_onone rfl c2) rfl rfl p2) rfl rfl ?_
    exact fin_go hF hn ha (e := (e.1, ss)) ⟨by show e.1.length ≤ _; omega, he.wc, hl7, hk12⟩
  · exact fin_go hF hn ha he.up
end
theorem Fit.up {n : Nat} {B : List Wd} (h : Fit n B) : Fit (n + 1) B := ⟨by have := h.len; omega, fun e he => (h.en e he).up⟩
theorem changed_ok {n : Nat} {B : List Wd} (hF : Fit n B) (hn : n ≤ 5) (h1 : 1 ≤ B.length) (w : Nat) {x : Int} (hx : 0 ≤ x) : ∃ B', Fit (n + 1) B' ∧ F__law_changed [bkD B, nd w, .int x] = .ok (.fz (bkD B')) := by
  have len := hF.len
  have q0 := way_eq w 0
  have q1 := way_eq w 1
  have q2 := way_eq w 2
  have ln := lenB B
  obtain ⟨rv, e, B', hB', rfl⟩ := go_run (ds := [bkD B, nd w, .int x]) (ρ := [some (.fz (bkD B)), some (.fz (nd w)), some (.fz (.int x)), none, none, none, none, none, none, none, none]) (n := 11) (g := g__law_changed) (T := fun v => ∃ B', Fit (n + 1) B' ∧ v = .fz (bkD B')) rfl (by
    unfold g__law_changed
    refine gs_if (b := decide (w = 0)) (ev_bool (ev_opb (ev_var rfl) ev_c rfl rfl q0) rfl) (fun _ => ?_) fun _ => gs_next ?_
    · exact gs_ret (pv := .fz (bkD [])) (ev_tup (ds := []) ev_nil rfl (Nat.le_of_ble_eq_true rfl)) rfl ⟨[], ⟨Nat.zero_le _, fun e h => by cases h⟩, rfl⟩
    refine gs_if (b := decide (w = 1)) (ev_bool (ev_opb (ev_var rfl) ev_c rfl rfl q1) rfl) (fun _ => ?_) fun _ => gs_next ?_
    · have m2 : modD (.int x) (.int 2) = some (.fz (.int (x % 2))) := tr_mod (by decide)
      have b2 : 0 ≤ x % 2 ∧ x % 2 < 2 := ⟨Int.emod_nonneg _ (by decide), Int.emod_lt_of_pos _ (by decide)⟩
      generalize x % 2 = x2 at m2 b2
      have sb : subD (.int 20) (.int (B.length : Int)) = some (.fz (.int (20 - (B.length : Int)))) := tr_sub _ _
      have mx : max2D [.int 0, .int (20 - (B.length : Int))] = some (.fz (.int (if 20 - (B.length : Int) > 0 then 20 - (B.length : Int) else 0))) := rfl
      have bx : 0 ≤ (if 20 - (B.length : Int) > 0 then 20 - (B.length : Int) else 0) ∧ (if 20 - (B.length : Int) > 0 then 20 - (B.length : Int) else 0) ≤ 19 ∧ (B.length : Int) + (if 20 - (B.length : Int) > 0 then 20 - (B.length : Int) else 0) ≤ 20 + n := by split <;> omega
      generalize (if 20 - (B.length : Int) > 0 then 20 - (B.length : Int) else 0) = mv at mx bx
      have am : addE (.int mv) (.int x2) = some (.fz (.int (mv + x2))) := rfl
      have rn : rng1 [.int (mv + x2)] = some (nds (List.range (mv + x2).toNat)) := rng1_i (by omega) (by omega)
      obtain ⟨_, _, _, _, _, sq⟩ := s_words
      refine gs_seq ?_
      refine gs_asg (pv := .ow []) (ρ3 := [some (.fz (bkD B)), some (.fz (nd w)), some (.fz (.int x)), some (.ow []), none, none, none, none, none, none, none]) (by walk_at "evp") rfl rfl ?_
      refine gs_seq ?_
      refine gs_for (fun i ρ => ∃ (M : List Wd) (t4 : Option PV), ρ = [some (.fz (bkD B)), some (.fz (nd w)), some (.fz (.int x)), some (.ow (M.map wD)), t4, none, none, none, none, none, none] ∧ M.length = i ∧ ∀ e ∈ M, FitE (n + 1) e) (ds := nds (List.range (mv + x2).toNat)) (ρ1 := [some (.fz (bkD B)), some (.fz (nd w)), some (.fz (.int x)), some (.ow []), none, none, none, none, none, none, none]) (ev_irng (ds := [.int (mv + x2)]) (ev_cons (ev_op (rv := .fz (.int (mv + x2))) (ev_cb (rv := .fz (.int mv)) (ev_cons ev_c (ev_cons (ev_op (rv := .fz (.int (20 - (B.length : Int)))) ev_c (ev_cb (rv := .fz (.int (B.length : Int))) (ev_cons (ev_var rfl) ev_nil) rfl ln) rfl rfl sb) ev_nil)) rfl mx) (by walk_at "ev") rfl rfl am) ev_nil) rfl rn) ⟨[], none, rfl, rfl, fun e h => by cases h⟩ ?_ ?_
      · rintro i d ρ hi ⟨M, t4, rfl, hM, hf⟩
        obtain ⟨k, hk, rfl⟩ := nds_get hi
        obtain ⟨hl, e⟩ := List.getElem?_eq_some_iff.mp hk
        rw [List.getElem_range] at e
        subst e
        rw [List.length_range] at hl
        have m7 : modD (nd i) (.int 7) = some (.fz (.int ((i : Int) % 7))) := tr_mod (by decide)
        have m12 : modD (nd i) (.int 12) = some (.fz (.int ((i : Int) % 12))) := tr_mod (by decide)
        obtain ⟨m, z1, z2, z3⟩ := sliceS_tx (l := [113, 113, 113, 113, 113, 113, 113]) (by decide) (some ((i : Int) % 7)) none
        have al := alph_at (i := (i : Int)) (by omega) (by omega)
        rw [Int.toNat_natCast] at al
        have z1 : m.length ≤ 7 := z1
        have ad := addS_tx (a := m) (b := [97 + i]) (by show _ + 1 ≤ _; omega)
        have hlen : (M.map wD).length < 1000000 := by rw [List.length_map]; omega
        refine ⟨_, rfl, ?_⟩
        rw [sq]
        refine go_drop (ev_app (d := wD (m ++ [97 + i], [[(i : Int) % 12]])) (x := [some (.fz (bkD B)), some (.fz (nd w)), some (.fz (.int x)), some (.ow (M.map wD ++ [wD (m ++ [97 + i], [[(i : Int) % 12]])])), some (.fz (nd i)), none, none, none, none, none, none]) rfl (ev_tup (ds := [txD (m ++ [97 + i]), .tuple [.tuple [.int ((i : Int) % 12)]]]) (ev_cons (ev_op (rv := .fz (txD (m ++ [97 + i]))) (ev_sl (rv := .fz (txD m)) ev_c (ev_osome (by walk_at "ev") rfl) ev_onone rfl z3) (ev_op (rv := .fz (txD [97 + i])) ev_c (ev_var rfl) rfl rfl al) rfl rfl ad) (ev_cons (by walk_at "ev") ev_nil)) rfl (Nat.le_of_ble_eq_true rfl)) rfl rfl hlen rfl) ⟨M ++ [(m ++ [97 + i], [[(i : Int) % 12]])], _, by rw [List.map_append]; rfl, by rw [List.length_append, hM]; rfl, fun e he => ?_⟩
        rcases List.mem_append.mp he with z | z
        · exact hf e z
        · rw [List.mem_singleton.mp z]
          refine ⟨by show (m ++ [97 + i]).length ≤ _; rw [List.length_append, List.length_singleton]; omega, fun c hc => ?_, by show 1 ≤ 7; decide, fun ks hk => by rw [List.mem_singleton.mp hk]; show 1 ≤ 12; decide⟩
          rcases List.mem_append.mp hc with z | z
          · have := z2 c z
            revert this
            clear z2 z
            intro this
            have : c = 113 := by simpa using this
            omega
          · rw [List.mem_singleton.mp z]; omega
      · rintro ρ ⟨M, t4, rfl, hM, hf⟩
        rw [nds_len, List.length_range] at hM
        have ad := addE_t (B.map wD) (M.map wD) (by rw [List.length_map, List.length_map]; omega)
        rw [← List.map_append] at ad
        refine gs_ret (pv := .fz (bkD (B ++ M))) (ev_op (rv := .fz (bkD (B ++ M))) (dx := bkD B) (dy := .tuple (M.map wD)) (ev_var rfl) (ev_cb (rv := .fz (.tuple (M.map wD))) (ev_cons (ev_own rfl) ev_nil) rfl rfl) rfl rfl ad) rfl ⟨B ++ M, ⟨by rw [List.length_append]; omega, fun e he => ?_⟩, rfl⟩
        rcases List.mem_append.mp he with z | z
        · exact (hF.en e z).up
        · exact hf e z
    have ml : modD (.int x) (.int (B.length : Int)) = some (.fz (.int (x % (B.length : Int)))) := tr_mod (by omega)
    have bl : 0 ≤ x % (B.length : Int) ∧ x % (B.length : Int) < (B.length : Int) := ⟨Int.emod_nonneg _ (by omega), Int.emod_lt_of_pos _ (by omega)⟩
    have dl : divD (.int x) (.int (B.length : Int)) = some (.fz (.int (x / (B.length : Int)))) := tr_div ⟨by omega, by omega⟩
    have nl : 0 ≤ x / (B.length : Int) := Int.ediv_nonneg hx (by omega)
    generalize x / (B.length : Int) = y at dl nl
    generalize x % (B.length : Int) = xa at ml bl
    obtain ⟨a, rfl⟩ : ∃ a : Nat, xa = (a : Int) := ⟨xa.toNat, by omega⟩
    have ha : a < B.length := by omega
    have ix : ixD (bkD B) (nd a) = some (.fz (wD (B.getD a w0))) := ixT (bk_at ha)
    have fe := hF.en _ (bk_mem ha)
    generalize B.getD a w0 = e at ix fe
    have lnv : ∀ {x1 x2 x3 x4 x5 x6 x7 x8 x9 x10 : Option PV}, (pCB lenD (aCons (pVar 0) aNil)) [some (.fz (bkD B)), x1, x2, x3, x4, x5, x6, x7, x8, x9, x10] = .ok (.fz (.int (B.length : Int)), [some (.fz (bkD B)), x1, x2, x3, x4, x5, x6, x7, x8, x9, x10]) := ev_cb (rv := .fz (.int (B.length : Int))) (ev_cons (ev_var rfl) ev_nil) rfl ln
    refine gs_asg (pv := .fz (nd a)) (ρ3 := [some (.fz (bkD B)), some (.fz (nd w)), some (.fz (.int x)), none, none, some (.fz (nd a)), none, none, none, none, none]) (ev_op (rv := .fz (nd a)) (ev_var rfl) lnv rfl rfl ml) rfl rfl ?_
    refine gs_asg (pv := .fz (wD e)) (ρ3 := [some (.fz (bkD B)), some (.fz (nd w)), some (.fz (.int x)), none, none, some (.fz (nd a)), some (.fz (txD e.1)), some (.fz (.tuple (e.2.map kD))), none, none, none]) (ev_op (rv := .fz (wD e)) (ev_var rfl) (ev_var rfl) rfl rfl ix) rfl rfl ?_
    refine gs_asg (pv := .fz (.int y)) (ρ3 := [some (.fz (bkD B)), some (.fz (nd w)), some (.fz (.int y)), none, none, some (.fz (nd a)), some (.fz (txD e.1)), some (.fz (.tuple (e.2.map kD))), none, none, none]) (ev_op (rv := .fz (.int y)) (ev_var rfl) lnv rfl rfl dl) rfl rfl ?_
    refine gs_if (b := decide (w = 2)) (ev_bool (ev_opb (ev_var rfl) ev_c rfl rfl q2) rfl) (fun _ => ?_) fun _ => gs_next ?_
    · have a1 : addE (.int (B.length : Int)) (.int 1) = some (.fz (.int ((B.length : Int) + 1))) := rfl
      have mp : modD (.int y) (.int ((B.length : Int) + 1)) = some (.fz (.int (y % ((B.length : Int) + 1)))) := tr_mod (by omega)
      have bp : 0 ≤ y % ((B.length : Int) + 1) ∧ y % ((B.length : Int) + 1) < (B.length : Int) + 1 := ⟨Int.emod_nonneg _ (by omega), Int.emod_lt_of_pos _ (by omega)⟩
      generalize y % ((B.length : Int) + 1) = pl at mp bp
      obtain ⟨p, rfl⟩ : ∃ p : Nat, pl = (p : Int) := ⟨pl.toNat, by omega⟩
      have he : FitE (n + 1) (e.1, [[3]]) := ⟨by show e.1.length ≤ _; have := fe.wl; omega, fe.wc, by show 1 ≤ 7; decide, fun ks hk => by rw [List.mem_singleton.mp hk]; show 1 ≤ 12; decide⟩
      obtain ⟨p1, p2⟩ := put_ok (B := B) (by omega) (e.1, [[3]]) p p
      have c1 := cut_to (B.map wD) p
      have c2 := cut_from (B.map wD) p
      have fp := fit_put hF he (p := p) (q := p) (Nat.le_refl _) (by omega)
      generalize (B.map wD).take p = t1 at *
      generalize (B.map wD).drop p = t2 at *
      generalize B.take p ++ [(e.1, [[3]])] ++ B.drop p = B' at *
      generalize (B.take p ++ [(e.1, [[3]])]).map wD = t3 at *
      refine gs_seq ?_
      refine gs_asg (pv := .fz (nd p)) (ρ3 := [some (.fz (bkD B)), some (.fz (nd w)), some (.fz (.int y)), none, none, some (.fz (nd a)), some (.fz (txD e.1)), some (.fz (.tuple (e.2.map kD))), some (.fz (nd p)), none, none]) (ev_op (rv := .fz (nd p)) (ev_var rfl) (ev_op (rv := .fz (.int ((B.length : Int) + 1))) lnv ev_c rfl rfl a1) rfl rfl mp) rfl rfl ?_
      exact gs_ret (pv := .fz (bkD B')) (ev_op (rv := .fz (bkD B')) (ev_op (rv := .fz (.tuple t3)) (ev_sl (rv := .fz (.tuple t1)) (ev_var rfl) ev_onone (ev_osome (ev_var rfl) rfl) rfl c1) (ev_tup (ds := [wD (e.1, [[3]])]) (ev_cons (ev_tup (ds := [txD e.1, .tuple [kD [3]]]) (ev_cons (ev_var rfl) (ev_cons (by walk_at "ev") ev_nil)) rfl (Nat.le_of_ble_eq_true rfl)) ev_nil) rfl (Nat.le_of_ble_eq_true rfl)) rfl rfl p1) (ev_sl (rv := .fz (.tuple t2)) (ev_var rfl) (ev_osome (ev_var rfl) rfl) ev_onone rfl c2) rfl rfl p2) rfl ⟨B', fp, rfl⟩
    · exact tail_go hF (by omega) nl ha fe)
  exact ⟨B', hB', e⟩
theorem due_eq (B : List Wd) : eqD (dueD B) (dueD B) = some (.fz (.bool true)) := by
  unfold dueD
  split
  · cases fstBad B with
    | none => rfl
    | some i =>
      show eqD (.tuple [nd i]) (.tuple [nd i]) = _
      have := eqD_tup [i] [i]
      rw [decide_eq_true rfl] at this
      exact this
  · rfl
theorem main (ns : List Int) (hns : ns.length ≤ 63) : F_law [.list (ns.map .int)] = .ok (.fz (.bool true)) := by
  obtain ⟨B0, hB0, e0⟩ := book_ok ns hns (a := 0) (by decide)
  obtain ⟨c9, e9⟩ := cell_ok ns 9 (by decide) hns
  obtain ⟨v9, hv9, ev9⟩ := wide_ok c9 30 (by decide) (by decide)
  have m3 : modD (.int v9) (.int 3) = some (.fz (.int (v9 % 3))) := tr_mod (by decide)
  have b3 : 0 ≤ v9 % 3 ∧ v9 % 3 < 3 := ⟨Int.emod_nonneg _ (by decide), Int.emod_lt_of_pos _ (by decide)⟩
  generalize v9 % 3 = q at m3 b3
  have rn : rng1 [.int q] = some (nds (List.range q.toNat)) := rng1_i (by omega) (by omega)
  have tg := told_ok hB0.fit (by decide)
  rw [hB0.due] at tg
  refine go_val (ρ := [some (.fz (.list (ns.map .int))), none, none, none, none]) rfl ?_
  unfold g_law
  have hcell := fun (k : Int) (h : 0 ≤ k) => cell_ok ns k h hns
  generalize PyData.list (ns.map PyData.int) = LD at *
  refine gs_asg (pv := .fz (bkD B0)) (ρ3 := [some (.fz LD), some (.fz (bkD B0)), none, none, none]) (ev_cal (ds := [LD, .int 0]) (rv := .fz (bkD B0)) (ev_cons (ev_var rfl) (ev_cons ev_c ev_nil)) rfl rfl e0) rfl rfl ?_
  refine gs_asg (pv := .fz (bkD B0)) (ρ3 := [some (.fz LD), some (.fz (bkD B0)), some (.fz (bkD B0)), none, none]) (ev_var rfl) rfl rfl ?_
  refine gs_for (fun i ρ => ∃ (B : List Wd) (t3 t4 : Option PV), ρ = [some (.fz LD), some (.fz (bkD B0)), some (.fz (bkD B)), t3, t4] ∧ Fit i B) (ds := nds (List.range q.toNat)) (ρ1 := [some (.fz LD), some (.fz (bkD B0)), some (.fz (bkD B0)), none, none]) (by walk_at "ev") ⟨B0, none, none, rfl, hB0.fit⟩ ?_ ?_
  · rintro i d ρ hi ⟨B, t3, t4, rfl, hF⟩
    obtain ⟨k, hk, rfl⟩ := nds_get hi
    obtain ⟨hl, e⟩ := List.getElem?_eq_some_iff.mp hk
    rw [List.getElem_range] at e
    subst e
    rw [List.length_range] at hl
    have ln := lenB B
    refine ⟨_, rfl, ?_⟩
    refine go_if (b := decide ((B.length : Int) > 0)) (ev_bool (ev_opb (dx := .int (B.length : Int)) (dy := .int 0) (ev_cb (rv := .fz (.int (B.length : Int))) (ev_cons (ev_var rfl) ev_nil) rfl ln) ev_c rfl rfl (tr_gt _ _)) rfl) (fun z => ?_) fun _ => go_next ⟨B, _, _, rfl, hF.up⟩
    have z := of_decide_eq_true z
    have mu : mulE (.int 2) (nd i) = some (.fz (.int (2 * (i : Int)))) := trE_mulL ⟨by decide, by decide⟩
    obtain ⟨c1, k1⟩ := hcell (10 + 2 * (i : Int)) (by omega)
    obtain ⟨v1, hv1, u1⟩ := wide_ok c1 (31 + (i : Int)) (by omega) (by omega)
    have m6 : modD (.int v1) (.int 6) = some (.fz (.int (v1 % 6))) := tr_mod (by decide)
    have b6 : 0 ≤ v1 % 6 := Int.emod_nonneg _ (by decide)
    generalize v1 % 6 = wy at m6 b6
    obtain ⟨w, rfl⟩ : ∃ w : Nat, wy = (w : Int) := ⟨wy.toNat, by omega⟩
    obtain ⟨c2, k2⟩ := hcell (11 + 2 * (i : Int)) (by omega)
    obtain ⟨v2, hv2, u2⟩ := wide_ok c2 (33 + (i : Int)) (by omega) (by omega)
    obtain ⟨B', hF', eB⟩ := changed_ok hF (by omega) (by omega) w hv2
    refine gs_asg (pv := .fz (nd w)) (ρ3 := [some (.fz LD), some (.fz (bkD B0)), some (.fz (bkD B)), some (.fz (nd i)), some (.fz (nd w))]) (ev_op (rv := .fz (nd w)) (ev_cal (rv := .fz (.int v1)) (by walk_at "ev") rfl rfl u1) ev_c rfl rfl m6) rfl rfl ?_
    exact gl_asg (pv := .fz (bkD B')) (ρ3 := [some (.fz LD), some (.fz (bkD B0)), some (.fz (bkD B')), some (.fz (nd i)), some (.fz (nd w))]) (ev_cal (ds := [bkD B, nd w, .int v2]) (rv := .fz (bkD B')) (ev_cons (ev_var rfl) (ev_cons (ev_var rfl) (ev_cons (ev_cal (rv := .fz (.int v2)) (by walk_at "ev") rfl rfl u2) ev_nil))) rfl rfl eB) rfl rfl ⟨B', _, _, rfl, hF'⟩
  · rintro ρ ⟨B, t3, t4, rfl, hF⟩
    rw [nds_len, List.length_range] at hF
    have t1 := told_ok hF (by omega)
    have t2 := due_ok hF (by omega)
    have ee := due_eq B
    generalize dueD B = dd at *
    exact go_ret (pv := .fz (.bool true)) (ev_pand (a := true) (b := true) (ev_bool (ev_opb (dx := dd) (dy := dd) (ev_cal (ds := [bkD B]) (rv := .fz dd) (ev_cons (ev_var rfl) ev_nil) rfl rfl t1) (ev_cal (ds := [bkD B]) (rv := .fz dd) (ev_cons (ev_var rfl) ev_nil) rfl rfl t2) rfl rfl ee) rfl) fun _ => ev_opb (dx := .none) (dy := .none) (ev_cal (ds := [bkD B0]) (rv := .fz .none) (ev_cons (ev_var rfl) ev_nil) rfl rfl tg) ev_c rfl rfl rfl) rfl rfl
noncomputable abbrev F_lawH : FN := F_law
noncomputable def top (i : Nat) : Stmt := PySem.Challenge.pw_chordbed_k61_books.main.body.getD i (.Pass ⟨0, 0, 0, 0⟩)
noncomputable def fb : Stmt → List Stmt
  | .For _ _ b _ _ => b
  | .If _ b _ _ => b
  | _ => []
noncomputable def av : Stmt → Expr
  | .Assign _ v _ => v
  | _ => .Name "" ⟨0, 0, 0, 0⟩
noncomputable def ss : Expr → Expr
  | .Subscript _ v _ => v
  | e => e
noncomputable def sP : Expr → Pos
  | .Subscript _ _ p => p
  | _ => ⟨0, 0, 0, 0⟩
noncomputable def lp : Expr → Pos
  | .List _ p => p
  | _ => ⟨0, 0, 0, 0⟩
noncomputable def iT : Stmt → Expr
  | .If c _ _ _ => c
  | _ => .Name "" ⟨0, 0, 0, 0⟩
noncomputable def iP : Stmt → Pos
  | .If _ _ _ p => p
  | _ => ⟨0, 0, 0, 0⟩
noncomputable def aP : Stmt → Pos
  | .Assign _ _ p => p
  | _ => ⟨0, 0, 0, 0⟩
noncomputable def nP : Stmt → Pos
  | .Assign [.Name _ p] _ _ => p
  | _ => ⟨0, 0, 0, 0⟩
noncomputable def sv : Expr → Expr
  | .Subscript v _ _ => v
  | e => e
noncomputable def le : Expr → List Expr
  | .List l _ => l
  | _ => []
noncomputable def slo : Expr → Option Expr
  | .Slice a _ _ _ => a
  | _ => none
noncomputable def shi : Expr → Option Expr
  | .Slice _ a _ _ => a
  | _ => none
noncomputable def slP : Expr → Pos
  | .Slice _ _ _ p => p
  | _ => ⟨0, 0, 0, 0⟩
noncomputable def tle : Expr → List Expr
  | .Tuple l _ _ => l
  | _ => []
noncomputable def rvE : Stmt → Expr
  | .Return (some e) _ => e
  | _ => .Name "" ⟨0, 0, 0, 0⟩
noncomputable def rP : Stmt → Pos
  | .Return _ p => p
  | _ => ⟨0, 0, 0, 0⟩
noncomputable def bl : Expr → Expr
  | .BinOp a _ _ _ => a
  | e => e
noncomputable def br : Expr → Expr
  | .BinOp _ _ b _ => b
  | e => e
noncomputable def bP : Expr → Pos
  | .BinOp _ _ _ p => p
  | _ => ⟨0, 0, 0, 0⟩
noncomputable def dK : Expr → List (Option Expr)
  | .Dict k _ _ => k
  | _ => []
noncomputable def dV : Expr → List Expr
  | .Dict _ v _ => v
  | _ => []
noncomputable def dP : Expr → Pos
  | .Dict _ _ p => p
  | _ => ⟨0, 0, 0, 0⟩
noncomputable def DP : Stmt := .Pass ⟨0, 0, 0, 0⟩
noncomputable def DE : Expr := .Name "" ⟨0, 0, 0, 0⟩
theorem sw_List {l p t n env} : swapsWith (.List l p) t n env = pure false := rfl
theorem sw_Tuple {l k p t n env} : swapsWith (.Tuple l k p) t n env = pure false := rfl
theorem sw_Call {a b c p t n env} : swapsWith (.Call a b c p) t n env = pure false := rfl
theorem sw_BinOp {a o b p t n env} : swapsWith (.BinOp a o b p) t n env = pure false := rfl
theorem sw_Subscript {a b p t n env} : swapsWith (.Subscript a b p) t n env = pure false := rfl
theorem sw_Name {a p t n env} : swapsWith (.Name a p) t n env = pure false := rfl
theorem sw_Constant {a b p t n env} : swapsWith (.Constant a b p) t n env = pure false := rfl
theorem sw_UnaryOp {o a p t n env} : swapsWith (.UnaryOp o a p) t n env = pure false := rfl
theorem sw_Compare {a b c p t n env} : swapsWith (.Compare a b c p) t n env = pure false := rfl
theorem sw_BoolOp {a b p t n env} : swapsWith (.BoolOp a b p) t n env = pure false := rfl
theorem sw_IfExp {a b c p t n env} : swapsWith (.IfExp a b c p) t n env = pure false := rfl
section
variable {P : Program} {w : World} {K : PySem.W.Frag} {mg : Str → Option Value} {base : Heap} {f : Addr} {fd : FuncData}
theorem sc__law_cell : FnScope ["_law_script", "_law_k"] ["_law_script", "_law_k"] (defScope (top 25)) := ⟨rfl, rfl, rfl, by decide +kernel, rfl, by decide +kernel, by decide +kernel⟩
theorem ok__law_cell (F : Fun K "_law_cell" "_law_cell" (top 25) f fd) : FnOk P w K mg base CX0 1 f fd ["_law_script", "_law_k"] (spP K 2 F__law_cell) := by
  refine okF (k := 0) (n := 2) (m := 2) (g := g__law_cell) (FF := F__law_cell) F sc__law_cell rfl rfl rfl (fun cdv A outer s H E hr => ?_)
  have hu := hr.units
  have hv : (A.deeper (PyProof.Rows.envOfC "_law_cell" (defScope (top 25)) s.heap.objs.size f cdv)).units + 65 < cLine := by have := hr.un; omega
  exact ⟨_, (pss_one (ps_ret (pe_ix ix_seq (pe_op op_addA (pe_slice sl_any (pv 0) (po_some (pv 1)) (po_some (pe_op op_addA (pv 1) pe_int))) (pe_lst (pa_cons pe_int pa_nil))) pe_int (fun _ _ => rfl)))), (so_ret (eo_op opp_ix (eo_op opp_add (eo_sl slp_any eo_var (too_some eo_var) (too_some (eo_op opp_add eo_var eo_int))) (eo_lst (ao_cons eo_int ao_nil))) eo_int))⟩
theorem sc__law_stirred : FnScope ["_law_cell_here", "_law_salt", "_law_number"] ["_law_cell_here", "_law_salt"] (defScope (top 26)) := ⟨rfl, rfl, rfl, by decide +kernel, rfl, by decide +kernel, by decide +kernel⟩
theorem ok__law_stirred (F : Fun K "_law_stirred" "_law_stirred" (top 26) f fd) : FnOk P w K mg base CX0 1 f fd ["_law_cell_here", "_law_salt"] (spP K 2 F__law_stirred) := by
  refine okF (k := 0) (n := 2) (m := 3) (g := g__law_stirred) (FF := F__law_stirred) F sc__law_stirred rfl rfl rfl (fun cdv A outer s H E hr => ?_)
  have hu := hr.units
  have hv : (A.deeper (PyProof.Rows.envOfC "_law_stirred" (defScope (top 26)) s.heap.objs.size f cdv)).units + 65 < cLine := by have := hr.un; omega
  exact ⟨_, (pss_cons (ps_set (i := 2) sc__law_stirred.nd rfl (Or.inl rfl) (pe_op op_addA (pe_op op_mod (pv 0) pe_int) (pe_op op_mulB pe_int (pv 1))))
      (pss_cons (ps_set (i := 2) sc__law_stirred.nd rfl (Or.inl rfl) (pe_op op_mod (pe_op op_addA (pe_op op_addA (pe_op op_mulB (pv 2) (pe_op op_addA (pe_op op_addA (pv 2) (pe_op op_mulB (pv 1) (pv 1))) pe_int)) (pe_op op_mulB pe_int (pv 1))) pe_int) pe_int))
      (pss_one (ps_ret (pe_op op_fdivL (pe_op op_mod (pe_op op_addA (pe_op op_mulB (pv 2) (pe_op op_addA (pe_op op_fdivL (pv 2) pe_int) pe_int)) pe_int) pe_int) pe_int))))), (so_seq (so_asg (eo_op opp_add (eo_op opp_mod eo_var eo_int) (eo_op opp_mulE eo_int eo_var)) go_name)
      (so_seq (so_asg (eo_op opp_mod (eo_op opp_add (eo_op opp_add (eo_op opp_mulE eo_var (eo_op opp_add (eo_op opp_add eo_var (eo_op opp_mulE eo_var eo_var)) eo_int)) (eo_op opp_mulE eo_int eo_var)) eo_int) eo_int) go_name)
      (so_ret (eo_op opp_div (eo_op opp_mod (eo_op opp_add (eo_op opp_mulE eo_var (eo_op opp_add (eo_op opp_div eo_var eo_int) eo_int)) eo_int) eo_int) eo_int))))⟩
theorem sc__law_stream : FnScope ["_law_cell_here", "_law_many", "_law_found", "_law_left", "_law_k", "_law_x", "_law_j"] ["_law_cell_here", "_law_many"] (defScope (top 28)) := ⟨rfl, rfl, rfl, by decide +kernel, rfl, by decide +kernel, by decide +kernel⟩
theorem ok__law_stream (F : Fun K "_law_stream" "_law_stream" (top 28) f fd) (c__law_stirred : CalP P w K mg base 1 "_law_stirred" ["_law_cell_here", "_law_salt"] 2 F__law_stirred) (z_max : mg "max" = none) (z_range : mg "range" = none) : FnOk P w K mg base CX0 2 f fd ["_law_cell_here", "_law_many"] (spP K 2 F__law_stream) := by
  refine okF (k := 1) (n := 2) (m := 7) (g := g__law_stream) (FF := F__law_stream) F sc__law_stream rfl rfl rfl (fun cdv A outer s H E hr => ?_)
  have hu := hr.units
  have hv : (A.deeper (PyProof.Rows.envOfC "_law_stream" (defScope (top 28)) s.heap.objs.size f cdv)).units + 65 < cLine := by have := hr.un; omega
  exact ⟨_, (pss_cons (ps_set (i := 2) sc__law_stream.nd rfl (Or.inl rfl) (pe_lst pa_nil))
      (pss_cons (ps_set (i := 3) sc__law_stream.nd rfl (Or.inl rfl) (pe_callB (call_max2 rfl) rfl z_max b_max (pa_cons (pv 0) (pa_cons (pe_op op_sub pe_int (pv 0)) pa_nil))))
      (pss_cons (ps_for PassesOwn.never rfl (pi_range1 rfl z_range (pa_cons (pv 1) pa_nil)) (pg_name (i := 4) sc__law_stream.nd rfl (Or.inl rfl)) (pss_cons (ps_set (i := 5) sc__law_stream.nd rfl (Or.inl rfl) pe_int)
      (pss_cons (ps_for PassesOwn.never rfl (pi_range1 rfl z_range (pa_cons pe_int pa_nil)) (pg_name (i := 6) sc__law_stream.nd rfl (Or.inl rfl)) (pss_one (ps_set (i := 5) sc__law_stream.nd rfl (Or.inl rfl) (pe_op op_addA (pe_op op_mulB (pv 5) (pe_op op_pow pe_int pe_int)) (pe_op op_mod (pe_cal c__law_stirred hr (pa_cons (pv 0) (pa_cons (pe_op op_addA (pe_op op_mulB pe_int (pv 4)) (pv 6)) pa_nil))) (pe_op op_pow pe_int pe_int))))))
      (pss_cons (ps_if (PW.pt (pw_and (pt_cmpR op_gt (pv 3) pe_int (nomark _)) (pw_and1 (PW.pt (pw_or (pt_cmpR op_lt (pv 0) pe_int (nomark _)) (pw_or1 (pt_cmpR op_ge (pv 0) (pe_op op_pow pe_int pe_int) (nomark _)))))))) (pss_cons (ps_set (i := 5) sc__law_stream.nd rfl (Or.inl rfl) (pe_op op_mod (pv 3) (pe_op op_pow pe_int pe_int)))
      (pss_one (ps_set (i := 3) sc__law_stream.nd rfl (Or.inl rfl) (pe_op op_fdivL (pv 3) (pe_op op_pow pe_int pe_int))))) pss_nil)
      (pss_one (ps_expr (pe_bm PySem.F.plainAttrs_list PySem.F.slot_list_append PySem.F.type_list_append mt_append (pv 2) (pa_cons (pv 5) pa_nil))))))))
      (pss_one (ps_ret (pv 2)))))), (so_seq (so_asg (eo_lst ao_nil) go_name)
      (so_seq (so_asg (eo_cb cb_max2 (ao_cons eo_var (ao_cons (eo_op opp_sub eo_int eo_var) ao_nil))) go_name)
      (so_seq (so_for (io_rng1 (ao_cons eo_var ao_nil)) go_name (so_seq (so_asg eo_int go_name)
      (so_seq (so_for (io_rng1 (ao_cons eo_int ao_nil)) go_name (so_asg (eo_op opp_add (eo_op opp_mulE eo_var (eo_op opp_pow eo_int eo_int)) (eo_op opp_mod (eo_cal (ao_cons eo_var (ao_cons (eo_op opp_add (eo_op opp_mulE eo_int eo_var) eo_var) ao_nil))) (eo_op opp_pow eo_int eo_int))) go_name))
      (so_seq (so_if (tto_and (tto_test (eo_op opp_gt eo_var eo_int)) (tto_or (tto_test (eo_op opp_lt eo_var eo_int)) (tto_test (eo_op opp_ge eo_var (eo_op opp_pow eo_int eo_int))))) (so_seq (so_asg (eo_op opp_mod eo_var (eo_op opp_pow eo_int eo_int)) go_name)
      (so_asg (eo_op opp_div eo_var (eo_op opp_pow eo_int eo_int)) go_name)) so_next)
      (so_drop (eo_app eo_var))))))
      (so_ret eo_var))))⟩
theorem sc__law_name_of : FnScope ["_law_rest", "_law_word", "_law_many", "_law_k"] ["_law_rest"] (defScope (top 33)) := ⟨rfl, rfl, rfl, by decide +kernel, rfl, by decide +kernel, by decide +kernel⟩
theorem ok__law_name_of (F : Fun K "_law_name_of" "_law_name_of" (top 33) f fd) (z_range : mg "range" = none) : FnOk P w K mg base CX0 1 f fd ["_law_rest"] (spP K 1 F__law_name_of) := by
  refine okF (k := 0) (n := 1) (m := 4) (g := g__law_name_of) (FF := F__law_name_of) F sc__law_name_of rfl rfl rfl (fun cdv A outer s H E hr => ?_)
  have hu := hr.units
  have hv : (A.deeper (PyProof.Rows.envOfC "_law_name_of" (defScope (top 33)) s.heap.objs.size f cdv)).units + 65 < cLine := by have := hr.un; omega
  exact ⟨_, (pss_cons (ps_set (i := 1) sc__law_name_of.nd rfl (Or.inl rfl) pe_str)
      (pss_cons (ps_set (i := 2) sc__law_name_of.nd rfl (Or.inl rfl) (pe_op op_addA pe_int (pe_op op_mod (pv 0) pe_int)))
      (pss_cons (ps_set (i := 0) sc__law_name_of.nd rfl (Or.inl rfl) (pe_op op_fdivL (pv 0) pe_int))
      (pss_cons (ps_for PassesOwn.never rfl (pi_range1 rfl z_range (pa_cons (pv 2) pa_nil)) (pg_name (i := 3) sc__law_name_of.nd rfl (Or.inl rfl)) (pss_cons (ps_set (i := 1) sc__law_name_of.nd rfl (Or.inl rfl) (pe_op op_add_str (pv 1) (pe_ix ix_seq pe_str (pe_op op_mod (pv 0) pe_int) (fun _ _ => rfl))))
      (pss_one (ps_set (i := 0) sc__law_name_of.nd rfl (Or.inl rfl) (pe_op op_fdivL (pv 0) pe_int)))))
      (pss_one (ps_ret (pv 1))))))), (so_seq (so_asg eo_str go_name)
      (so_seq (so_asg (eo_op opp_add eo_int (eo_op opp_mod eo_var eo_int)) go_name)
      (so_seq (so_asg (eo_op opp_div eo_var eo_int) go_name)
      (so_seq (so_for (io_rng1 (ao_cons eo_var ao_nil)) go_name (so_seq (so_asg (eo_op opp_addS eo_var (eo_op opp_ixS eo_str (eo_op opp_mod eo_var eo_int))) go_name)
      (so_asg (eo_op opp_div eo_var eo_int) go_name)))
      (so_ret eo_var)))))⟩
theorem sc__law_stroke_of : FnScope ["_law_rest", "_law_mask", "_law_found", "_law_key"] ["_law_rest"] (defScope (top 34)) := ⟨rfl, rfl, rfl, by decide +kernel, rfl, by decide +kernel, by decide +kernel⟩
theorem ok__law_stroke_of (F : Fun K "_law_stroke_of" "_law_stroke_of" (top 34) f fd) (z_range : mg "range" = none) (z_tuple : mg "tuple" = none) : FnOk P w K mg base CX0 1 f fd ["_law_rest"] (spP K 1 F__law_stroke_of) := by
  refine okF (k := 0) (n := 1) (m := 4) (g := g__law_stroke_of) (FF := F__law_stroke_of) F sc__law_stroke_of rfl rfl rfl (fun cdv A outer s H E hr => ?_)
  have hu := hr.units
  have hv : (A.deeper (PyProof.Rows.envOfC "_law_stroke_of" (defScope (top 34)) s.heap.objs.size f cdv)).units + 65 < cLine := by have := hr.un; omega
  exact ⟨_, (pss_cons (ps_set (i := 1) sc__law_stroke_of.nd rfl (Or.inl rfl) (pe_op op_addA pe_int (pv 0)))
      (pss_cons (ps_set (i := 2) sc__law_stroke_of.nd rfl (Or.inl rfl) (pe_lst pa_nil))
      (pss_cons (ps_for PassesOwn.never rfl (pi_range1 rfl z_range (pa_cons pe_int pa_nil)) (pg_name (i := 3) sc__law_stroke_of.nd rfl (Or.inl rfl)) (pss_cons (ps_if (pt_cmpR (op_eqD hu) (pe_op op_mod (pv 1) pe_int) pe_int (nomark _)) (pss_one (ps_expr (pe_bm PySem.F.plainAttrs_list PySem.F.slot_list_append PySem.F.type_list_append mt_append (pv 2) (pa_cons (pv 3) pa_nil)))) pss_nil)
      (pss_one (ps_set (i := 1) sc__law_stroke_of.nd rfl (Or.inl rfl) (pe_op op_fdivL (pv 1) pe_int)))))
      (pss_one (ps_ret (pe_callTy call_tuple_of rfl z_tuple b_tuple (pa_cons (pv 2) pa_nil))))))), (so_seq (so_asg (eo_op opp_add eo_int eo_var) go_name)
      (so_seq (so_asg (eo_lst ao_nil) go_name)
      (so_seq (so_for (io_rng1 (ao_cons eo_int ao_nil)) go_name (so_seq (so_if (tto_test (eo_op opp_eq (eo_op opp_mod eo_var eo_int) eo_int)) (so_drop (eo_app eo_var)) so_next)
      (so_asg (eo_op opp_div eo_var eo_int) go_name)))
      (so_ret (eo_cb cb_tuple (ao_cons eo_var ao_nil))))))⟩
theorem sc__law_read_book : FnScope ["_law_xs", "_law_found", "_law_k", "_law_word", "_law_strokes", "_law_rest", "_law_j"] ["_law_xs"] (defScope (top 35)) := ⟨rfl, rfl, rfl, by decide +kernel, rfl, by decide +kernel, by decide +kernel⟩
theorem ok__law_read_book (F : Fun K "_law_read_book" "_law_read_book" (top 35) f fd) (c__law_name_of : CalP P w K mg base 1 "_law_name_of" ["_law_rest"] 1 F__law_name_of) (c__law_stroke_of : CalP P w K mg base 1 "_law_stroke_of" ["_law_rest"] 1 F__law_stroke_of) (z_range : mg "range" = none) (z_tuple : mg "tuple" = none) : FnOk P w K mg base CX0 2 f fd ["_law_xs"] (spP K 1 F__law_read_book) := by
  refine okF (k := 1) (n := 1) (m := 7) (g := g__law_read_book) (FF := F__law_read_book) F sc__law_read_book rfl rfl rfl (fun cdv A outer s H E hr => ?_)
  have hu := hr.units
  have hv : (A.deeper (PyProof.Rows.envOfC "_law_read_book" (defScope (top 35)) s.heap.objs.size f cdv)).units + 65 < cLine := by have := hr.un; omega
  exact ⟨_, (pss_cons (ps_set (i := 1) sc__law_read_book.nd rfl (Or.inl rfl) (pe_lst pa_nil))
      (pss_cons (ps_for PassesOwn.never rfl (pi_range1 rfl z_range (pa_cons (pe_op op_addA pe_int (pe_op op_mod (pe_ix ix_seq (pv 0) pe_int (fun _ _ => rfl)) pe_int)) pa_nil)) (pg_name (i := 2) sc__law_read_book.nd rfl (Or.inl rfl)) (pss_cons (ps_set (i := 3) sc__law_read_book.nd rfl (Or.inl rfl) (pe_cal c__law_name_of hr (pa_cons (pe_ix ix_seq (pv 0) (pe_op op_addA pe_int (pe_op op_mulB pe_int (pv 2))) (fun _ _ => rfl)) pa_nil)))
      (pss_cons (ps_set (i := 4) sc__law_read_book.nd rfl (Or.inl rfl) (pe_lst pa_nil))
      (pss_cons (ps_set (i := 5) sc__law_read_book.nd rfl (Or.inl rfl) (pe_op op_fdivL (pe_ix ix_seq (pv 0) (pe_op op_addA pe_int (pe_op op_mulB pe_int (pv 2))) (fun _ _ => rfl)) pe_int))
      (pss_cons (ps_for PassesOwn.never rfl (pi_range1 rfl z_range (pa_cons (pe_op op_addA pe_int (pe_op op_mod (pe_ix ix_seq (pv 0) (pe_op op_addA pe_int (pe_op op_mulB pe_int (pv 2))) (fun _ _ => rfl)) pe_int)) pa_nil)) (pg_name (i := 6) sc__law_read_book.nd rfl (Or.inl rfl)) (pss_cons (ps_expr (pe_bm PySem.F.plainAttrs_list PySem.F.slot_list_append PySem.F.type_list_append mt_append (pv 4) (pa_cons (pe_cal c__law_stroke_of hr (pa_cons (pe_op op_mod (pv 5) pe_int) pa_nil)) pa_nil)))
      (pss_one (ps_set (i := 5) sc__law_read_book.nd rfl (Or.inl rfl) (pe_op op_fdivL (pv 5) pe_int)))))
      (pss_one (ps_if (pt_cmpR (op_ninD hv) (pv 3) (pe_comp ["_law_name", "_law_other"] [] rfl (pi_seq (pv 1)) (fun _ _ _ _ => (pg_tup rfl (pgs_cons (pg_name (i := 0) (show List.Nodup (["_law_name", "_law_other"] : List Str) by decide +kernel) rfl (Or.inl rfl)) (pgs_cons (pg_name (i := 1) (show List.Nodup (["_law_name", "_law_other"] : List Str) by decide +kernel) rfl (Or.inl rfl)) pgs_nil)))) (fun _ _ _ _ => pifs_nil) (fun _ _ _ _ => (pv 0)) trivial rfl) (by with_unfolding_all rfl)) (pss_one (ps_expr (pe_bm PySem.F.plainAttrs_list PySem.F.slot_list_append PySem.F.type_list_append mt_append (pv 1) (pa_cons (pe_tup (pa_cons (pv 3) (pa_cons (pe_callTy call_tuple_of rfl z_tuple b_tuple (pa_cons (pv 4) pa_nil)) pa_nil))) pa_nil)))) pss_nil)))))))
      (pss_one (ps_ret (pe_callTy call_tuple_of rfl z_tuple b_tuple (pa_cons (pv 1) pa_nil)))))), (so_seq (so_asg (eo_lst ao_nil) go_name)
      (so_seq (so_for (io_rng1 (ao_cons (eo_op opp_add eo_int (eo_op opp_mod (eo_op opp_ix eo_var eo_int) eo_int)) ao_nil)) go_name (so_seq (so_asg (eo_cal (ao_cons (eo_op opp_ix eo_var (eo_op opp_add eo_int (eo_op opp_mulE eo_int eo_var))) ao_nil)) go_name)
      (so_seq (so_asg (eo_lst ao_nil) go_name)
      (so_seq (so_asg (eo_op opp_div (eo_op opp_ix eo_var (eo_op opp_add eo_int (eo_op opp_mulE eo_int eo_var))) eo_int) go_name)
      (so_seq (so_for (io_rng1 (ao_cons (eo_op opp_add eo_int (eo_op opp_mod (eo_op opp_ix eo_var (eo_op opp_add eo_int (eo_op opp_mulE eo_int eo_var))) eo_int)) ao_nil)) go_name (so_seq (so_drop (eo_app (eo_cal (ao_cons (eo_op opp_mod eo_var eo_int) ao_nil))))
      (so_asg (eo_op opp_div eo_var eo_int) go_name)))
      (so_if (tto_test (eo_op opp_nin eo_var (eo_compS rfl rfl ios_keep (go_tup (gs_cons go_name (gs_cons go_name gs_nil))) tto_true eo_var))) (so_drop (eo_app (eo_tup (ao_cons eo_var (ao_cons (eo_cb cb_tuple (ao_cons eo_var ao_nil)) ao_nil))))) so_next))))))
      (so_ret (eo_cb cb_tuple (ao_cons eo_var ao_nil)))))⟩
theorem sc__law_wide : FnScope ["_law_cell_here", "_law_salt"] ["_law_cell_here", "_law_salt"] (defScope (top 27)) := ⟨rfl, rfl, rfl, by decide +kernel, rfl, by decide +kernel, by decide +kernel⟩
theorem ok__law_wide (F : Fun K "_law_wide" "_law_wide" (top 27) f fd) (c__law_stirred : CalP P w K mg base 1 "_law_stirred" ["_law_cell_here", "_law_salt"] 2 F__law_stirred) (z_max : mg "max" = none) : FnOk P w K mg base CX0 2 f fd ["_law_cell_here", "_law_salt"] (spP K 2 F__law_wide) := by
  refine okF (k := 1) (n := 2) (m := 2) (g := g__law_wide) (FF := F__law_wide) F sc__law_wide rfl rfl rfl (fun cdv A outer s H E hr => ?_)
  have hu := hr.units
  have hv : (A.deeper (PyProof.Rows.envOfC "_law_wide" (defScope (top 27)) s.heap.objs.size f cdv)).units + 65 < cLine := by have := hr.un; omega
  exact ⟨_, (pss_cons (ps_if (PW.pt (pw_or (pt_cmpR op_lt (pv 0) pe_int (nomark _)) (pw_or1 (pt_cmpR op_ge (pv 0) (pe_op op_pow pe_int pe_int) (nomark _))))) (pss_one (ps_ret (pe_callB (call_max2 rfl) rfl z_max b_max (pa_cons (pv 0) (pa_cons (pe_op op_sub pe_int (pv 0)) pa_nil))))) pss_nil)
      (pss_one (ps_ret (pe_cal c__law_stirred hr (pa_cons (pe_cal c__law_stirred hr (pa_cons (pv 0) (pa_cons (pv 1) pa_nil))) (pa_cons pe_int pa_nil)))))), (so_seq (so_if (tto_or (tto_test (eo_op opp_lt eo_var eo_int)) (tto_test (eo_op opp_ge eo_var (eo_op opp_pow eo_int eo_int)))) (so_ret (eo_cb cb_max2 (ao_cons eo_var (ao_cons (eo_op opp_sub eo_int eo_var) ao_nil)))) so_next)
      (so_ret (eo_cal (ao_cons (eo_cal (ao_cons eo_var (ao_cons eo_var ao_nil))) (ao_cons eo_int ao_nil)))))⟩
theorem sc__law_names : FnScope ["_law_cell_here", "_law_many", "_law_letters", "_law_sign", "_law_size", "_law_at", "_law_found", "_law_k", "_law_other"] ["_law_cell_here", "_law_many"] (defScope (top 32)) := ⟨rfl, rfl, rfl, by decide +kernel, rfl, by decide +kernel, by decide +kernel⟩
theorem ok__law_names (F : Fun K "_law_names" "_law_names" (top 32) f fd) (z_range : mg "range" = none) : FnOk P w K mg base CX0 1 f fd ["_law_cell_here", "_law_many"] (spP K 2 F__law_names) := by
  refine okF (k := 0) (n := 2) (m := 9) (g := g__law_names) (FF := F__law_names) F sc__law_names rfl rfl rfl (fun cdv A outer s H E hr => ?_)
  have hu := hr.units
  have hv : (A.deeper (PyProof.Rows.envOfC "_law_names" (defScope (top 32)) s.heap.objs.size f cdv)).units + 65 < cLine := by have := hr.un; omega
  exact ⟨_, (pss_cons (ps_set (i := 2) sc__law_names.nd rfl (Or.inl rfl) pe_str)
      (pss_cons (ps_set (i := 3) sc__law_names.nd rfl (Or.inr rfl) (pe_ix ix_seq (pv 2) (pe_op op_mod (pe_op op_fdivL (pv 0) pe_int) pe_int) (fun _ _ => rfl)))
      (pss_cons (ps_if (PW.pt (pw_and (pt_cmpR (op_eqD hu) (pe_op op_mod (pv 0) pe_int) pe_int (nomark _)) (pw_and1 (pt_cmpR op_lt (pv 1) pe_int (nomark _))))) (pss_one (ps_ret (pe_comp ["_law_k"] [("_law_sign", 3)] rfl (pi_range1 rfl z_range (pa_cons (pv 1) pa_nil)) (fun _ _ _ _ => (pg_name (i := 0) (show List.Nodup (["_law_k", "_law_sign"] : List Str) by decide +kernel) rfl (Or.inl rfl))) (fun _ _ _ _ => pifs_nil) (fun _ _ _ _ => (pe_op L9.op_mulS (pv 1) (pe_op op_addA (pv 0) pe_int))) ⟨⟨rfl, rfl, Or.inl rfl⟩, trivial⟩ rfl))) pss_nil)
      (pss_cons (ps_set (i := 4) sc__law_names.nd rfl (Or.inl rfl) (pe_op op_mod (pe_op op_fdivL (pv 0) pe_int) pe_int))
      (pss_cons (ps_set (i := 5) sc__law_names.nd rfl (Or.inl rfl) (pe_op op_mod (pe_op op_fdivL (pv 0) pe_int) (pe_op op_addA (pv 4) pe_int)))
      (pss_cons (ps_set (i := 6) sc__law_names.nd rfl (Or.inl rfl) (pe_lst pa_nil))
      (pss_cons (ps_for PassesOwn.never rfl (pi_range1 rfl z_range (pa_cons (pv 1) pa_nil)) (pg_name (i := 7) sc__law_names.nd rfl (Or.inl rfl)) (pss_cons (ps_set (i := 8) sc__law_names.nd rfl (Or.inl rfl) (pe_ix ix_seq (pv 2) (pe_op op_mod (pe_op op_addA (pe_op op_mulB (pv 7) pe_int) (pe_op op_fdivL (pv 0) pe_int)) pe_int) (fun _ _ => rfl)))
      (pss_one (ps_expr (pe_bm PySem.F.plainAttrs_list PySem.F.slot_list_append PySem.F.type_list_append mt_append (pv 6) (pa_cons (pe_op op_add_str (pe_op op_add_str (pe_op L9.op_mulS (pv 3) (pv 5)) (pv 8)) (pe_op L9.op_mulS (pv 3) (pe_op op_sub (pv 4) (pv 5)))) pa_nil))))))
      (pss_one (ps_ret (pv 6)))))))))), (so_seq (so_asg eo_str go_name)
      (so_seq (so_asg (eo_op opp_ixS eo_var (eo_op opp_mod (eo_op opp_div eo_var eo_int) eo_int)) go_name)
      (so_seq (so_if (tto_and (tto_test (eo_op opp_eq (eo_op opp_mod eo_var eo_int) eo_int)) (tto_test (eo_op opp_lt eo_var eo_int))) (so_ret (eo_comp rfl rfl (io_rng1 (ao_cons eo_var ao_nil)) go_name tto_true (eo_op L9.opp_mulS eo_var (eo_op opp_add eo_var eo_int)))) so_next)
      (so_seq (so_asg (eo_op opp_mod (eo_op opp_div eo_var eo_int) eo_int) go_name)
      (so_seq (so_asg (eo_op opp_mod (eo_op opp_div eo_var eo_int) (eo_op opp_add eo_var eo_int)) go_name)
      (so_seq (so_asg (eo_lst ao_nil) go_name)
      (so_seq (so_for (io_rng1 (ao_cons eo_var ao_nil)) go_name (so_seq (so_asg (eo_op opp_ixS eo_var (eo_op opp_mod (eo_op opp_add (eo_op opp_mulE eo_var eo_int) (eo_op opp_div eo_var eo_int)) eo_int)) go_name)
      (so_drop (eo_app (eo_op opp_addS (eo_op opp_addS (eo_op L9.opp_mulS eo_var eo_var) eo_var) (eo_op L9.opp_mulS eo_var (eo_op opp_sub eo_var eo_var)))))))
      (so_ret eo_var))))))))⟩
theorem sc__law_stroke : FnScope ["_law_cell_here", "_law_wide_here", "_law_some", "_law_bits", "_law_keys", "_law_key"] ["_law_cell_here", "_law_wide_here"] (defScope (top 31)) := ⟨rfl, rfl, rfl, by decide +kernel, rfl, by decide +kernel, by decide +kernel⟩
noncomputable abbrev X31 (P : Program) (w : World) (K : PySem.W.Frag) (mg : Str → Option Value) (base : Heap) (f : Addr) (cdv : Value) (A : Around) (outer : List Env) (s : Shared) (H : Hp) (E : XK) : Cx := (cxOf CX0 P w K mg base ["_law_cell_here", "_law_wide_here", "_law_some", "_law_bits", "_law_keys", "_law_key"] "_law_stroke" (defScope (top 31)) f cdv A outer s H E).nox
noncomputable def z31_1 : Stmt := (defBody (top 31)).getD 0 DP
noncomputable def z31_2 : Stmt := (defBody (top 31)).getD 1 DP
noncomputable def z31_3 : Stmt := (defBody (top 31)).getD 2 DP
noncomputable def z31_4 : Expr := av z31_1
noncomputable def z31_5 : Expr := (le z31_4).getD 0 DE
noncomputable def z31_6 : Expr := (le z31_4).getD 1 DE
noncomputable def z31_7 : Expr := (le z31_4).getD 2 DE
noncomputable def z31_8 : Expr := (le z31_4).getD 3 DE
theorem ok__law_stroke (F : Fun K "_law_stroke" "_law_stroke" (top 31) f fd) (z_range : mg "range" = none) (z_len : mg "len" = none) (z_tuple : mg "tuple" = none) : FnOk P w K mg base CX0 1 f fd ["_law_cell_here", "_law_wide_here"] (spP K 2 F__law_stroke) := by
  refine okF (k := 0) (n := 2) (m := 6) (g := g__law_stroke) (FF := F__law_stroke) F sc__law_stroke rfl rfl rfl (fun cdv A outer s H E hr => ?_)
  have hu := hr.units
  have hv : (A.deeper (PyProof.Rows.envOfC "_law_stroke" (defScope (top 31)) s.heap.objs.size f cdv)).units + 65 < cLine := by have := hr.un; omega
  obtain ⟨tq3, uq3, vq3⟩ : ∃ t, PE (X31 P w K mg base f cdv A outer s H E) z31_5 t ∧ EO K E t (pTup (aCons (pC (.int 0)) aNil)) := ⟨_, (pe_tup (pa_cons pe_int pa_nil)), (eo_tup (ao_cons eo_int ao_nil))⟩
  obtain ⟨tq4, uq4, vq4⟩ : ∃ t, PE (X31 P w K mg base f cdv A outer s H E) z31_6 t ∧ EO K E t (pTup (aCons (pC (.int 1)) aNil)) := ⟨_, (pe_tup (pa_cons pe_int pa_nil)), (eo_tup (ao_cons eo_int ao_nil))⟩
  obtain ⟨tq5, uq5, vq5⟩ : ∃ t, PE (X31 P w K mg base f cdv A outer s H E) z31_7 t ∧ EO K E t (pTup (aCons (pC (.int 0)) (aCons (pC (.int 1)) aNil))) := ⟨_, (pe_tup (pa_cons pe_int (pa_cons pe_int pa_nil))), (eo_tup (ao_cons eo_int (ao_cons eo_int ao_nil)))⟩
  obtain ⟨tq6, uq6, vq6⟩ : ∃ t, PE (X31 P w K mg base f cdv A outer s H E) z31_8 t ∧ EO K E t (pTup (aCons (pC (.int 2)) (aCons (pC (.int 11)) aNil))) := ⟨_, (pe_tup (pa_cons pe_int (pa_cons pe_int pa_nil))), (eo_tup (ao_cons eo_int (ao_cons eo_int ao_nil)))⟩
  have stq2_0 : isSt z31_5 = false := rfl
  have stq2_1 : isSt z31_6 = false := rfl
  have stq2_2 : isSt z31_7 = false := rfl
  have stq2_3 : isSt z31_8 = false := rfl
  obtain ⟨pq2, hLq2⟩ : ∃ pp, z31_4 = .List [z31_5, z31_6, z31_7, z31_8] pp := ⟨_, rfl⟩
  obtain ⟨tq2, uq2, vq2⟩ : ∃ t, PE (X31 P w K mg base f cdv A outer s H E) z31_4 t ∧ EO K E t (pLst (aCons (pTup (aCons (pC (.int 0)) aNil)) (aCons (pTup (aCons (pC (.int 1)) aNil)) (aCons (pTup (aCons (pC (.int 0)) (aCons (pC (.int 1)) aNil))) (aCons (pTup (aCons (pC (.int 2)) (aCons (pC (.int 11)) aNil))) aNil))))) := by
    rw [hLq2]
    generalize z31_5 = z0 at *
    generalize z31_6 = z1 at *
    generalize z31_7 = z2 at *
    generalize z31_8 = z3 at *
    exact ⟨_, pe_lst (paC uq3 (paC uq4 (paC uq5 (paC uq6 pa_nil stq2_3) stq2_2) stq2_1) stq2_0), eo_lst (ao_cons vq3 (ao_cons vq4 (ao_cons vq5 (ao_cons vq6 ao_nil))))⟩
  clear hLq2 stq2_0 stq2_1 stq2_2 stq2_3 uq3 vq3 uq4 vq4 uq5 vq5 uq6 vq6
  have hSq1 : z31_1 = .Assign [.Name "_law_some" (nP z31_1)] z31_4 (aP z31_1) := rfl
  have swq1 : swapsWith z31_4 (some (.Name "_law_some" (nP z31_1))) (aP z31_1).line (X31 P w K mg base f cdv A outer s H E).env = pure false := rfl
  obtain ⟨tq1, uq1, vq1⟩ : ∃ t, PS (X31 P w K mg base f cdv A outer s H E) z31_1 t ∧ SO K E t (sAsg (pLst (aCons (pTup (aCons (pC (.int 0)) aNil)) (aCons (pTup (aCons (pC (.int 1)) aNil)) (aCons (pTup (aCons (pC (.int 0)) (aCons (pC (.int 1)) aNil))) (aCons (pTup (aCons (pC (.int 2)) (aCons (pC (.int 11)) aNil))) aNil))))) (gN 2)) := by
    rw [hSq1]
    generalize z31_4 = z0 at *
    generalize nP z31_1 = z1 at *
    generalize aP z31_1 = z2 at *
    exact ⟨_, ps_set (i := 2) sc__law_stroke.nd rfl (Or.inl rfl) uq2 (hs := swq1), so_asg vq2 go_name⟩
  clear hSq1 swq1 uq2 vq2
  obtain ⟨tq7, uq7, vq7⟩ : ∃ t, PS (X31 P w K mg base f cdv A outer s H E) z31_2 t ∧ SO K E t (sIf (pBool (pVar 1)) (sSeq (sAsg (pOp divD (pVar 0) (pC (.int 4))) (gN 3))
  (sSeq (sAsg (pLst aNil) (gN 4))
  (sSeq (sFor (iRng rng1 (aCons (pC (.int 12)) aNil)) (gN 5) (sSeq (sIf (pBool (pOp eqD (pOp modD (pVar 3) (pC (.int 2))) (pC (.int 1)))) (sDrop (pApp 4 (pVar 5))) sNext)
  (sAsg (pOp divD (pVar 3) (pC (.int 2))) (gN 3))))
  (sIf (pBool (pOp gtD (pCB lenD (aCons (pVar 4) aNil)) (pC (.int 0)))) (sRet (pCB tupD (aCons (pVar 4) aNil))) sNext)))) sNext) := ⟨_, (ps_if (pt_val (pv 1)) (pss_cons (ps_set (i := 3) sc__law_stroke.nd rfl (Or.inl rfl) (pe_op op_fdivL (pv 0) pe_int) (hs := sw_BinOp))
      (pss_cons (ps_set (i := 4) sc__law_stroke.nd rfl (Or.inl rfl) (pe_lst pa_nil) (hs := sw_List))
      (pss_cons (ps_for PassesOwn.never rfl (pi_range1 rfl z_range (pa_cons pe_int pa_nil)) (pg_name (i := 5) sc__law_stroke.nd rfl (Or.inl rfl)) (pss_cons (ps_if (pt_cmpR (op_eqD hu) (pe_op op_mod (pv 3) pe_int) pe_int (nomark _)) (pss_one (ps_expr (pe_bm PySem.F.plainAttrs_list PySem.F.slot_list_append PySem.F.type_list_append mt_append (pv 4) (pa_cons (pv 5) pa_nil)))) pss_nil)
      (pss_one (ps_set (i := 3) sc__law_stroke.nd rfl (Or.inl rfl) (pe_op op_fdivL (pv 3) pe_int) (hs := sw_BinOp)))))
      (pss_one (ps_if (pt_cmpR op_gt (pe_callB call_len rfl z_len b_len (pa_cons (pv 4) pa_nil)) pe_int (nomark _)) (pss_one (ps_ret (pe_callTy call_tuple_of rfl z_tuple b_tuple (pa_cons (pv 4) pa_nil)))) pss_nil))))) pss_nil), (so_if (tto_b eo_var) (so_seq (so_asg (eo_op opp_div eo_var eo_int) go_name)
      (so_seq (so_asg (eo_lst ao_nil) go_name)
      (so_seq (so_for (io_rng1 (ao_cons eo_int ao_nil)) go_name (so_seq (so_if (tto_test (eo_op opp_eq (eo_op opp_mod eo_var eo_int) eo_int)) (so_drop (eo_app eo_var)) so_next)
      (so_asg (eo_op opp_div eo_var eo_int) go_name)))
      (so_if (tto_test (eo_op opp_gt (eo_cb cb_len (ao_cons eo_var ao_nil)) eo_int)) (so_ret (eo_cb cb_tuple (ao_cons eo_var ao_nil))) so_next)))) so_next)⟩
  obtain ⟨tq8, uq8, vq8⟩ : ∃ t, PS (X31 P w K mg base f cdv A outer s H E) z31_3 t ∧ SO K E t (sRet (pOp ixD (pVar 2) (pOp modD (pVar 0) (pC (.int 4))))) := ⟨_, (ps_ret (pe_ix ix_seq (pv 2) (pe_op op_mod (pv 0) pe_int) (fun _ _ => rfl))), (so_ret (eo_op opp_ix eo_var (eo_op opp_mod eo_var eo_int)))⟩
  have hb : (defBody (top 31)) = [z31_1, z31_2, z31_3] := rfl
  rw [hb]
  generalize z31_1 = z0 at *
  generalize z31_2 = z1 at *
  generalize z31_3 = z2 at *
  exact ⟨_, (pss_cons uq1
      (pss_cons uq7
      (pss_one uq8))), (so_seq vq1
      (so_seq vq7
      vq8))⟩
theorem sc__law_book : FnScope ["_law_script", "_law_at", "_law_first", "_law_sort", "_law_many", "_law_most", "_law_names_here", "_law_found", "_law_k", "_law_cell_here", "_law_strokes", "_law_j"] ["_law_script", "_law_at"] (defScope (top 36)) := ⟨rfl, rfl, rfl, by decide +kernel, rfl, by decide +kernel, by decide +kernel⟩
theorem ok__law_book (F : Fun K "_law_book" "_law_book" (top 36) f fd) (c__law_cell : CalP P w K mg base 1 "_law_cell" ["_law_script", "_law_k"] 2 F__law_cell) (c__law_stream : CalP P w K mg base 2 "_law_stream" ["_law_cell_here", "_law_many"] 2 F__law_stream) (c__law_read_book : CalP P w K mg base 2 "_law_read_book" ["_law_xs"] 1 F__law_read_book) (c__law_wide : CalP P w K mg base 2 "_law_wide" ["_law_cell_here", "_law_salt"] 2 F__law_wide) (c__law_names : CalP P w K mg base 1 "_law_names" ["_law_cell_here", "_law_many"] 2 F__law_names) (c__law_stroke : CalP P w K mg base 1 "_law_stroke" ["_law_cell_here", "_law_wide_here"] 2 F__law_stroke) (z_range : mg "range" = none) (z_tuple : mg "tuple" = none) : FnOk P w K mg base CX0 3 f fd ["_law_script", "_law_at"] (spP K 2 F__law_book) := by
  refine okF (k := 2) (n := 2) (m := 12) (g := g__law_book) (FF := F__law_book) F sc__law_book rfl rfl rfl (fun cdv A outer s H E hr => ?_)
  have hu := hr.units
  have hv : (A.deeper (PyProof.Rows.envOfC "_law_book" (defScope (top 36)) s.heap.objs.size f cdv)).units + 65 < cLine := by have := hr.un; omega
  exact ⟨_, (pss_cons (ps_set (i := 2) sc__law_book.nd rfl (Or.inl rfl) (pe_cal c__law_cell hr (pa_cons (pv 0) (pa_cons (pv 1) pa_nil))))
      (pss_cons (ps_if (PW.pt (pw_or (pt_cmpR op_lt (pv 2) pe_int (nomark _)) (pw_or1 (pt_cmpR op_ge (pv 2) (pe_op op_pow pe_int pe_int) (nomark _))))) (pss_one (ps_ret (pe_cal c__law_read_book hr (pa_cons (pe_cal c__law_stream hr (pa_cons (pv 2) (pa_cons pe_int pa_nil))) pa_nil)))) pss_nil)
      (pss_cons (ps_set (i := 2) sc__law_book.nd rfl (Or.inl rfl) (pe_cal c__law_wide hr (pa_cons (pv 2) (pa_cons pe_int pa_nil))))
      (pss_cons (ps_set (i := 3) sc__law_book.nd rfl (Or.inl rfl) (pe_op op_mod (pe_op op_fdivL (pv 2) pe_int) pe_int))
      (pss_cons (ps_set (i := 4) sc__law_book.nd rfl (Or.inl rfl) (pe_op op_addA pe_int (pe_op op_mod (pv 2) pe_int)))
      (pss_cons (ps_set (i := 5) sc__law_book.nd rfl (Or.inl rfl) pe_int)
      (pss_cons (ps_if (pt_cmpR (op_eqD hu) (pe_op op_mod (pe_op op_fdivL (pv 2) pe_int) pe_int) pe_int (nomark _)) (pss_cons (ps_set (i := 4) sc__law_book.nd rfl (Or.inl rfl) (pe_op op_addA pe_int (pe_op op_mod (pe_op op_fdivL (pv 2) pe_int) pe_int)))
      (pss_one (ps_set (i := 5) sc__law_book.nd rfl (Or.inl rfl) pe_int))) pss_nil)
      (pss_cons (ps_set (i := 6) sc__law_book.nd rfl (Or.inl rfl) (pe_cal c__law_names hr (pa_cons (pe_cal c__law_wide hr (pa_cons (pe_cal c__law_cell hr (pa_cons (pv 0) (pa_cons (pe_op op_addA (pv 1) pe_int) pa_nil))) (pa_cons pe_int pa_nil))) (pa_cons (pv 4) pa_nil))))
      (pss_cons (ps_set (i := 7) sc__law_book.nd rfl (Or.inl rfl) (pe_lst pa_nil))
      (pss_cons (ps_for PassesOwn.never rfl (pi_range1 rfl z_range (pa_cons (pv 4) pa_nil)) (pg_name (i := 8) sc__law_book.nd rfl (Or.inl rfl)) (pss_cons (ps_set (i := 9) sc__law_book.nd rfl (Or.inl rfl) (pe_cal c__law_wide hr (pa_cons (pe_cal c__law_cell hr (pa_cons (pv 0) (pa_cons (pe_op op_addA (pe_op op_addA (pv 1) pe_int) (pe_op op_mod (pv 8) pe_int)) pa_nil))) (pa_cons (pe_op op_addA pe_int (pv 8)) pa_nil))))
      (pss_cons (ps_set (i := 10) sc__law_book.nd rfl (Or.inl rfl) (pe_lst pa_nil))
      (pss_cons (ps_for PassesOwn.never rfl (pi_range1 rfl z_range (pa_cons (pe_op op_addA pe_int (pe_op op_mod (pv 9) (pv 5))) pa_nil)) (pg_name (i := 11) sc__law_book.nd rfl (Or.inl rfl)) (pss_cons (ps_set (i := 9) sc__law_book.nd rfl (Or.inl rfl) (pe_op op_fdivL (pv 9) pe_int))
      (pss_one (ps_expr (pe_bm PySem.F.plainAttrs_list PySem.F.slot_list_append PySem.F.type_list_append mt_append (pv 10) (pa_cons (pe_cal c__law_stroke hr (pa_cons (pe_ix ix_seq (pe_lst (pa_cons (pe_op op_mod (pv 9) pe_int) (pa_cons (pv 9) (pa_cons (pv 9) (pa_cons (pv 9) pa_nil))))) (pv 3) (fun _ _ => rfl)) (pa_cons (pe_cmpR (op_eqD hu) (pv 3) pe_int (nomark _)) pa_nil))) pa_nil))))))
      (pss_one (ps_expr (pe_bm PySem.F.plainAttrs_list PySem.F.slot_list_append PySem.F.type_list_append mt_append (pv 7) (pa_cons (pe_tup (pa_cons (pe_ix ix_seq (pv 6) (pv 8) (fun _ _ => rfl)) (pa_cons (pe_callTy call_tuple_of rfl z_tuple b_tuple (pa_cons (pv 10) pa_nil)) pa_nil))) pa_nil))))))))
      (pss_one (ps_ret (pe_callTy call_tuple_of rfl z_tuple b_tuple (pa_cons (pv 7) pa_nil)))))))))))))), (so_seq (so_asg (eo_cal (ao_cons eo_var (ao_cons eo_var ao_nil))) go_name)
      (so_seq (so_if (tto_or (tto_test (eo_op opp_lt eo_var eo_int)) (tto_test (eo_op opp_ge eo_var (eo_op opp_pow eo_int eo_int)))) (so_ret (eo_cal (ao_cons (eo_cal (ao_cons eo_var (ao_cons eo_int ao_nil))) ao_nil))) so_next)
      (so_seq (so_asg (eo_cal (ao_cons eo_var (ao_cons eo_int ao_nil))) go_name)
      (so_seq (so_asg (eo_op opp_mod (eo_op opp_div eo_var eo_int) eo_int) go_name)
      (so_seq (so_asg (eo_op opp_add eo_int (eo_op opp_mod eo_var eo_int)) go_name)
      (so_seq (so_asg eo_int go_name)
      (so_seq (so_if (tto_test (eo_op opp_eq (eo_op opp_mod (eo_op opp_div eo_var eo_int) eo_int) eo_int)) (so_seq (so_asg (eo_op opp_add eo_int (eo_op opp_mod (eo_op opp_div eo_var eo_int) eo_int)) go_name)
      (so_asg eo_int go_name)) so_next)
      (so_seq (so_asg (eo_cal (ao_cons (eo_cal (ao_cons (eo_cal (ao_cons eo_var (ao_cons (eo_op opp_add eo_var eo_int) ao_nil))) (ao_cons eo_int ao_nil))) (ao_cons eo_var ao_nil))) go_name)
      (so_seq (so_asg (eo_lst ao_nil) go_name)
      (so_seq (so_for (io_rng1 (ao_cons eo_var ao_nil)) go_name (so_seq (so_asg (eo_cal (ao_cons (eo_cal (ao_cons eo_var (ao_cons (eo_op opp_add (eo_op opp_add eo_var eo_int) (eo_op opp_mod eo_var eo_int)) ao_nil))) (ao_cons (eo_op opp_add eo_int eo_var) ao_nil))) go_name)
      (so_seq (so_asg (eo_lst ao_nil) go_name)
      (so_seq (so_for (io_rng1 (ao_cons (eo_op opp_add eo_int (eo_op opp_mod eo_var eo_var)) ao_nil)) go_name (so_seq (so_asg (eo_op opp_div eo_var eo_int) go_name)
      (so_drop (eo_app (eo_cal (ao_cons (eo_op opp_ix (eo_lst (ao_cons (eo_op opp_mod eo_var eo_int) (ao_cons eo_var (ao_cons eo_var (ao_cons eo_var ao_nil))))) eo_var) (ao_cons (eo_op opp_eq eo_var eo_int) ao_nil)))))))
      (so_drop (eo_app (eo_tup (ao_cons (eo_op opp_ix eo_var eo_var) (ao_cons (eo_cb cb_tuple (ao_cons eo_var ao_nil)) ao_nil)))))))))
      (so_ret (eo_cb cb_tuple (ao_cons eo_var ao_nil)))))))))))))⟩
theorem sc__law_changed : FnScope ["_law_book_here", "_law_way", "_law_x", "_law_more", "_law_k", "_law_at", "_law_word", "_law_strokes", "_law_place", "_law_fuller", "_law_some"] ["_law_book_here", "_law_way", "_law_x"] (defScope (top 37)) := ⟨rfl, rfl, rfl, by decide +kernel, rfl, by decide +kernel, by decide +kernel⟩
noncomputable abbrev X37 (P : Program) (w : World) (K : PySem.W.Frag) (mg : Str → Option Value) (base : Heap) (f : Addr) (cdv : Value) (A : Around) (outer : List Env) (s : Shared) (H : Hp) (E : XK) : Cx := (cxOf CX0 P w K mg base ["_law_book_here", "_law_way", "_law_x", "_law_more", "_law_k", "_law_at", "_law_word", "_law_strokes", "_law_place", "_law_fuller", "_law_some"] "_law_changed" (defScope (top 37)) f cdv A outer s H E).nox
noncomputable def z37_1 : Stmt := (defBody (top 37)).getD 0 DP
noncomputable def z37_2 : Stmt := (defBody (top 37)).getD 1 DP
noncomputable def z37_3 : Stmt := (defBody (top 37)).getD 2 DP
noncomputable def z37_4 : Stmt := (defBody (top 37)).getD 3 DP
noncomputable def z37_5 : Stmt := (defBody (top 37)).getD 4 DP
noncomputable def z37_6 : Stmt := (defBody (top 37)).getD 5 DP
noncomputable def z37_7 : Stmt := (defBody (top 37)).getD 6 DP
noncomputable def z37_8 : Stmt := (defBody (top 37)).getD 7 DP
noncomputable def z37_9 : Stmt := (defBody (top 37)).getD 8 DP
noncomputable def z37_10 : Stmt := (defBody (top 37)).getD 9 DP
noncomputable def z37_11 : Expr := iT z37_2
noncomputable def z37_12 : Stmt := (fb z37_2).getD 0 DP
noncomputable def z37_13 : Stmt := (fb z37_2).getD 1 DP
noncomputable def z37_14 : Stmt := (fb z37_2).getD 2 DP
noncomputable def z37_15 : Expr := iT z37_6
noncomputable def z37_16 : Stmt := (fb z37_6).getD 0 DP
noncomputable def z37_17 : Stmt := (fb z37_6).getD 1 DP
noncomputable def z37_18 : Expr := rvE z37_17
noncomputable def z37_19 : Expr := bl z37_18
noncomputable def z37_20 : Expr := br z37_18
noncomputable def z37_21 : Expr := bl z37_19
noncomputable def z37_22 : Expr := br z37_19
noncomputable def z37_23 : Expr := (tle z37_22).getD 0 DE
noncomputable def z37_24 : Expr := iT z37_8
noncomputable def z37_25 : Stmt := (fb z37_8).getD 0 DP
noncomputable def z37_26 : Stmt := (fb z37_8).getD 1 DP
noncomputable def z37_27 : Expr := av z37_25
noncomputable def z37_28 : Expr := sv z37_27
noncomputable def z37_29 : Expr := bl z37_28
noncomputable def z37_30 : Expr := br z37_28
noncomputable def z37_31 : Expr := (tle z37_30).getD 0 DE
noncomputable def z37_32 : Expr := (tle z37_30).getD 1 DE
noncomputable def z37_33 : Expr := (tle z37_30).getD 2 DE
noncomputable def z37_34 : Expr := (tle z37_30).getD 3 DE
noncomputable def z37_35 : Expr := (tle z37_30).getD 4 DE
noncomputable def z37_36 : Expr := (tle z37_30).getD 5 DE
noncomputable def z37_37 : Option Expr := slo (ss z37_27)
noncomputable def z37_38 : Option Expr := shi (ss z37_27)
noncomputable def z37_39 : Expr := iT z37_9
noncomputable def z37_40 : Stmt := (fb z37_9).getD 0 DP
noncomputable def z37_41 : Stmt := (fb z37_9).getD 1 DP
noncomputable def z37_42 : Stmt := (fb z37_9).getD 2 DP
noncomputable def z37_43 : Expr := av z37_40
noncomputable def z37_44 : Expr := sv z37_43
noncomputable def z37_45 : Expr := ss z37_43
noncomputable def z37_46 : Expr := (le z37_44).getD 0 DE
noncomputable def z37_47 : Expr := (le z37_44).getD 1 DE
noncomputable def z37_48 : Expr := (le z37_44).getD 2 DE
noncomputable def z37_49 : Expr := (le z37_44).getD 3 DE
noncomputable def z37_50 : Expr := (le z37_44).getD 4 DE
noncomputable def z37_51 : Expr := (le z37_44).getD 5 DE
theorem ok__law_changed (F : Fun K "_law_changed" "_law_changed" (top 37) f fd) (z_range : mg "range" = none) (z_max : mg "max" = none) (z_len : mg "len" = none) (z_tuple : mg "tuple" = none) : FnOk P w K mg base CX0 1 f fd ["_law_book_here", "_law_way", "_law_x"] (spP K 3 F__law_changed) := by
  refine okF (k := 0) (n := 3) (m := 11) (g := g__law_changed) (FF := F__law_changed) F sc__law_changed rfl rfl rfl (fun cdv A outer s H E hr => ?_)
  have hu := hr.units
  have hv : (A.deeper (PyProof.Rows.envOfC "_law_changed" (defScope (top 37)) s.heap.objs.size f cdv)).units + 65 < cLine := by have := hr.un; omega
  obtain ⟨tq1, uq1, vq1⟩ : ∃ t, PS (X37 P w K mg base f cdv A outer s H E) z37_1 t ∧ SO K E t (sIf (pBool (pOp eqD (pVar 1) (pC (.int 0)))) (sRet (pTup aNil)) sNext) := ⟨_, (ps_if (pt_cmpR (op_eqD hu) (pv 1) pe_int (nomark _)) (pss_one (ps_ret (pe_tup pa_nil))) pss_nil), (so_if (tto_test (eo_op opp_eq eo_var eo_int)) (so_ret (eo_tup ao_nil)) so_next)⟩
  obtain ⟨tq3, uq3, vq3⟩ : ∃ t, PT (X37 P w K mg base f cdv A outer s H E) z37_11 t ∧ TTO K E t (pBool (pOp eqD (pVar 1) (pC (.int 1)))) := ⟨_, (pt_cmpR (op_eqD hu) (pv 1) pe_int (nomark _)), (tto_test (eo_op opp_eq eo_var eo_int))⟩
  obtain ⟨tq4, uq4, vq4⟩ : ∃ t, PS (X37 P w K mg base f cdv A outer s H E) z37_12 t ∧ SO K E t (sAsg (pLst aNil) (gN 3)) := ⟨_, (ps_set (i := 3) sc__law_changed.nd rfl (Or.inl rfl) (pe_lst pa_nil) (hs := sw_List)), (so_asg (eo_lst ao_nil) go_name)⟩
  obtain ⟨tq5, uq5, vq5⟩ : ∃ t, PS (X37 P w K mg base f cdv A outer s H E) z37_13 t ∧ SO K E t (sFor (iRng rng1 (aCons (pOp addE (pCB max2D (aCons (pC (.int 0)) (aCons (pOp subD (pC (.int 20)) (pCB lenD (aCons (pVar 0) aNil))) aNil))) (pOp modD (pVar 2) (pC (.int 2)))) aNil)) (gN 4) (sDrop (pApp 3 (pTup (aCons (pOp addS (pSl sliceS (pC (.str "qqqqqqq")) (oSome (pOp modD (pVar 4) (pC (.int 7)))) oNone) (pOp ixS (pC (.str "abcdefghijklmnopqrstuvwxyz")) (pVar 4))) (aCons (pTup (aCons (pTup (aCons (pOp modD (pVar 4) (pC (.int 12))) aNil)) aNil)) aNil)))))) := ⟨_, (ps_for PassesOwn.never rfl (pi_range1 rfl z_range (pa_cons (pe_op op_addB (pe_callB (call_max2 rfl) rfl z_max b_max (pa_cons pe_int (pa_cons (pe_op op_sub pe_int (pe_callB call_len rfl z_len b_len (pa_cons (pv 0) pa_nil))) pa_nil))) (pe_op op_mod (pv 2) pe_int)) pa_nil)) (pg_name (i := 4) sc__law_changed.nd rfl (Or.inl rfl)) (pss_one (ps_expr (pe_bm PySem.F.plainAttrs_list PySem.F.slot_list_append PySem.F.type_list_append mt_append (pv 3) (pa_cons (pe_tup (pa_cons (pe_op op_add_str (pe_slice sl_str pe_str (po_some (pe_op op_mod (pv 4) pe_int)) po_none) (pe_ix ix_seq pe_str (pv 4) (fun _ _ => rfl))) (pa_cons (pe_tup (pa_cons (pe_tup (pa_cons (pe_op op_mod (pv 4) pe_int) pa_nil)) pa_nil)) pa_nil))) pa_nil))))), (so_for (io_rng1 (ao_cons (eo_op opp_addE (eo_cb cb_max2 (ao_cons eo_int (ao_cons (eo_op opp_sub eo_int (eo_cb cb_len (ao_cons eo_var ao_nil))) ao_nil))) (eo_op opp_mod eo_var eo_int)) ao_nil)) go_name (so_drop (eo_app (eo_tup (ao_cons (eo_op opp_addS (eo_sl slp_str eo_str (too_some (eo_op opp_mod eo_var eo_int)) too_none) (eo_op opp_ixS eo_str eo_var)) (ao_cons (eo_tup (ao_cons (eo_tup (ao_cons (eo_op opp_mod eo_var eo_int) ao_nil)) ao_nil)) ao_nil))))))⟩
  obtain ⟨tq6, uq6, vq6⟩ : ∃ t, PS (X37 P w K mg base f cdv A outer s H E) z37_14 t ∧ SO K E t (sRet (pOp addE (pVar 0) (pCB tupD (aCons (pVar 3) aNil)))) := ⟨_, (ps_ret (pe_op op_addB (pv 0) (pe_callTy call_tuple_of rfl z_tuple b_tuple (pa_cons (pv 3) pa_nil)))), (so_ret (eo_op opp_addE eo_var (eo_cb cb_tuple (ao_cons eo_var ao_nil))))⟩
  have hSq2 : z37_2 = .If z37_11 [z37_12, z37_13, z37_14] [] (iP z37_2) := rfl
  obtain ⟨tq2, uq2, vq2⟩ : ∃ t, PS (X37 P w K mg base f cdv A outer s H E) z37_2 t ∧ SO K E t (sIf (pBool (pOp eqD (pVar 1) (pC (.int 1)))) (sSeq (sAsg (pLst aNil) (gN 3))
  (sSeq (sFor (iRng rng1 (aCons (pOp addE (pCB max2D (aCons (pC (.int 0)) (aCons (pOp subD (pC (.int 20)) (pCB lenD (aCons (pVar 0) aNil))) aNil))) (pOp modD (pVar 2) (pC (.int 2)))) aNil)) (gN 4) (sDrop (pApp 3 (pTup (aCons (pOp addS (pSl sliceS (pC (.str "qqqqqqq")) (oSome (pOp modD (pVar 4) (pC (.int 7)))) oNone) (pOp ixS (pC (.str "abcdefghijklmnopqrstuvwxyz")) (pVar 4))) (aCons (pTup (aCons (pTup (aCons (pOp modD (pVar 4) (pC (.int 12))) aNil)) aNil)) aNil))))))
  (sRet (pOp addE (pVar 0) (pCB tupD (aCons (pVar 3) aNil)))))) sNext) := by
    rw [hSq2]
    generalize z37_11 = z0 at *
    generalize iP z37_2 = z1 at *
    generalize z37_12 = z2 at *
    generalize z37_13 = z3 at *
    generalize z37_14 = z4 at *
    exact ⟨_, ps_if uq3 (pss_cons uq4
      (pss_cons uq5
      (pss_one uq6))) pss_nil, so_if vq3 (so_seq vq4
      (so_seq vq5
      vq6)) so_next⟩
  clear hSq2 uq3 vq3 uq4 vq4 uq5 vq5 uq6 vq6
  obtain ⟨tq7, uq7, vq7⟩ : ∃ t, PS (X37 P w K mg base f cdv A outer s H E) z37_3 t ∧ SO K E t (sAsg (pOp modD (pVar 2) (pCB lenD (aCons (pVar 0) aNil))) (gN 5)) := ⟨_, (ps_set (i := 5) sc__law_changed.nd rfl (Or.inl rfl) (pe_op op_mod (pv 2) (pe_callB call_len rfl z_len b_len (pa_cons (pv 0) pa_nil))) (hs := sw_BinOp)), (so_asg (eo_op opp_mod eo_var (eo_cb cb_len (ao_cons eo_var ao_nil))) go_name)⟩
  obtain ⟨tq8, uq8, vq8⟩ : ∃ t, PS (X37 P w K mg base f cdv A outer s H E) z37_4 t ∧ SO K E t (sAsg (pOp ixD (pVar 0) (pVar 5)) (gT 2 (gsC (gN 6) (gsC (gN 7) gsN)))) := ⟨_, (ps_asg (pe_ix ix_seq (pv 0) (pv 5) (fun _ _ => rfl)) (pg_tup rfl (pgs_cons (pg_name (i := 6) sc__law_changed.nd rfl (Or.inl rfl)) (pgs_cons (pg_name (i := 7) sc__law_changed.nd rfl (Or.inl rfl)) pgs_nil)))), (so_asg (eo_op opp_ix eo_var eo_var) (go_tup (gs_cons go_name (gs_cons go_name gs_nil))))⟩
  obtain ⟨tq9, uq9, vq9⟩ : ∃ t, PS (X37 P w K mg base f cdv A outer s H E) z37_5 t ∧ SO K E t (sAsg (pOp divD (pVar 2) (pCB lenD (aCons (pVar 0) aNil))) (gN 2)) := ⟨_, (ps_set (i := 2) sc__law_changed.nd rfl (Or.inl rfl) (pe_op op_fdivL (pv 2) (pe_callB call_len rfl z_len b_len (pa_cons (pv 0) pa_nil))) (hs := sw_BinOp)), (so_asg (eo_op opp_div eo_var (eo_cb cb_len (ao_cons eo_var ao_nil))) go_name)⟩
  obtain ⟨tq11, uq11, vq11⟩ : ∃ t, PT (X37 P w K mg base f cdv A outer s H E) z37_15 t ∧ TTO K E t (pBool (pOp eqD (pVar 1) (pC (.int 2)))) := ⟨_, (pt_cmpR (op_eqD hu) (pv 1) pe_int (nomark _)), (tto_test (eo_op opp_eq eo_var eo_int))⟩
  obtain ⟨tq12, uq12, vq12⟩ : ∃ t, PS (X37 P w K mg base f cdv A outer s H E) z37_16 t ∧ SO K E t (sAsg (pOp modD (pVar 2) (pOp addE (pCB lenD (aCons (pVar 0) aNil)) (pC (.int 1)))) (gN 8)) := ⟨_, (ps_set (i := 8) sc__law_changed.nd rfl (Or.inl rfl) (pe_op op_mod (pv 2) (pe_op op_addB (pe_callB call_len rfl z_len b_len (pa_cons (pv 0) pa_nil)) pe_int)) (hs := sw_BinOp)), (so_asg (eo_op opp_mod eo_var (eo_op opp_addE (eo_cb cb_len (ao_cons eo_var ao_nil)) eo_int)) go_name)⟩
  obtain ⟨tq16, uq16, vq16⟩ : ∃ t, PE (X37 P w K mg base f cdv A outer s H E) z37_21 t ∧ EO K E t (pSl slE (pVar 0) oNone (oSome (pVar 8))) := ⟨_, (pe_slice sl_anyB (pv 0) po_none (po_some (pv 8))), (eo_sl slp_B eo_var too_none (too_some eo_var))⟩
  obtain ⟨tq18, uq18, vq18⟩ : ∃ t, PE (X37 P w K mg base f cdv A outer s H E) z37_23 t ∧ EO K E t (pTup (aCons (pVar 6) (aCons (pTup (aCons (pTup (aCons (pC (.int 3)) aNil)) aNil)) aNil))) := ⟨_, (pe_tup (pa_cons (pv 6) (pa_cons (pe_tup (pa_cons (pe_tup (pa_cons pe_int pa_nil)) pa_nil)) pa_nil))), (eo_tup (ao_cons eo_var (ao_cons (eo_tup (ao_cons (eo_tup (ao_cons eo_int ao_nil)) ao_nil)) ao_nil)))⟩
  have stq17_0 : isSt z37_23 = false := rfl
  obtain ⟨xq17, pq17, hLq17⟩ : ∃ x1 pp, z37_22 = .Tuple [z37_23] x1 pp := ⟨_, _, rfl⟩
  obtain ⟨tq17, uq17, vq17⟩ : ∃ t, PE (X37 P w K mg base f cdv A outer s H E) z37_22 t ∧ EO K E t (pTup (aCons (pTup (aCons (pVar 6) (aCons (pTup (aCons (pTup (aCons (pC (.int 3)) aNil)) aNil)) aNil))) aNil)) := by
    rw [hLq17]
    generalize z37_23 = z0 at *
    exact ⟨_, pe_tup (paC uq18 pa_nil stq17_0), eo_tup (ao_cons vq18 ao_nil)⟩
  clear hLq17 stq17_0 uq18 vq18
  have hLq15 : z37_19 = .BinOp z37_21 .Add z37_22 (bP z37_19) := rfl
  obtain ⟨tq15, uq15, vq15⟩ : ∃ t, PE (X37 P w K mg base f cdv A outer s H E) z37_19 t ∧ EO K E t (pOp addE (pSl slE (pVar 0) oNone (oSome (pVar 8))) (pTup (aCons (pTup (aCons (pVar 6) (aCons (pTup (aCons (pTup (aCons (pC (.int 3)) aNil)) aNil)) aNil))) aNil))) := by
    rw [hLq15]
    generalize z37_21 = z0 at *
    generalize z37_22 = z1 at *
    generalize bP z37_19 = z2 at *
    exact ⟨_, pe_op op_addB uq16 uq17, eo_op opp_addE vq16 vq17⟩
  clear hLq15 uq16 vq16 uq17 vq17
  obtain ⟨tq19, uq19, vq19⟩ : ∃ t, PE (X37 P w K mg base f cdv A outer s H E) z37_20 t ∧ EO K E t (pSl slE (pVar 0) (oSome (pVar 8)) oNone) := ⟨_, (pe_slice sl_anyB (pv 0) (po_some (pv 8)) po_none), (eo_sl slp_B eo_var (too_some eo_var) too_none)⟩
  have hLq14 : z37_18 = .BinOp z37_19 .Add z37_20 (bP z37_18) := rfl
  obtain ⟨tq14, uq14, vq14⟩ : ∃ t, PE (X37 P w K mg base f cdv A outer s H E) z37_18 t ∧ EO K E t (pOp addE (pOp addE (pSl slE (pVar 0) oNone (oSome (pVar 8))) (pTup (aCons (pTup (aCons (pVar 6) (aCons (pTup (aCons (pTup (aCons (pC (.int 3)) aNil)) aNil)) aNil))) aNil))) (pSl slE (pVar 0) (oSome (pVar 8)) oNone)) := by
    rw [hLq14]
    generalize z37_19 = z0 at *
    generalize z37_20 = z1 at *
    generalize bP z37_18 = z2 at *
    exact ⟨_, pe_op op_addB uq15 uq19, eo_op opp_addE vq15 vq19⟩
  clear hLq14 uq15 vq15 uq19 vq19
  have hSq13 : z37_17 = .Return (some z37_18) (rP z37_17) := rfl
  obtain ⟨tq13, uq13, vq13⟩ : ∃ t, PS (X37 P w K mg base f cdv A outer s H E) z37_17 t ∧ SO K E t (sRet (pOp addE (pOp addE (pSl slE (pVar 0) oNone (oSome (pVar 8))) (pTup (aCons (pTup (aCons (pVar 6) (aCons (pTup (aCons (pTup (aCons (pC (.int 3)) aNil)) aNil)) aNil))) aNil))) (pSl slE (pVar 0) (oSome (pVar 8)) oNone))) := by
    rw [hSq13]
    generalize z37_18 = z0 at *
    generalize rP z37_17 = z1 at *
    exact ⟨_, ps_ret uq14, so_ret vq14⟩
  clear hSq13 uq14 vq14
  have hSq10 : z37_6 = .If z37_15 [z37_16, z37_17] [] (iP z37_6) := rfl
  obtain ⟨tq10, uq10, vq10⟩ : ∃ t, PS (X37 P w K mg base f cdv A outer s H E) z37_6 t ∧ SO K E t (sIf (pBool (pOp eqD (pVar 1) (pC (.int 2)))) (sSeq (sAsg (pOp modD (pVar 2) (pOp addE (pCB lenD (aCons (pVar 0) aNil)) (pC (.int 1)))) (gN 8))
  (sRet (pOp addE (pOp addE (pSl slE (pVar 0) oNone (oSome (pVar 8))) (pTup (aCons (pTup (aCons (pVar 6) (aCons (pTup (aCons (pTup (aCons (pC (.int 3)) aNil)) aNil)) aNil))) aNil))) (pSl slE (pVar 0) (oSome (pVar 8)) oNone)))) sNext) := by
    rw [hSq10]
    generalize z37_15 = z0 at *
    generalize iP z37_6 = z1 at *
    generalize z37_16 = z2 at *
    generalize z37_17 = z3 at *
    exact ⟨_, ps_if uq11 (pss_cons uq12
      (pss_one uq13)) pss_nil, so_if vq11 (so_seq vq12
      vq13) so_next⟩
  clear hSq10 uq11 vq11 uq12 vq12 uq13 vq13
  obtain ⟨tq20, uq20, vq20⟩ : ∃ t, PS (X37 P w K mg base f cdv A outer s H E) z37_7 t ∧ SO K E t (sIf (pBool (pOp eqD (pVar 1) (pC (.int 3)))) (sAsg (pOp ixD (pLst (aCons (pC (.str "")) (aCons (pOp addS (pVar 6) (pC (.str "abcdefgh"))) (aCons (pOp addS (pSl sliceS (pVar 6) oNone (oSome (pC (.int 7)))) (pC (.str "A"))) (aCons (pOp addS (pSl sliceS (pVar 6) oNone (oSome (pC (.int 7)))) (pC (.str "3"))) (aCons (pOp addS (pSl sliceS (pVar 6) oNone (oSome (pC (.int 7)))) (pC (.str "+"))) (aCons (pOp addS (pC (.str " ")) (pSl sliceS (pVar 6) oNone (oSome (pC (.int 7))))) aNil))))))) (pOp modD (pVar 2) (pC (.int 6)))) (gN 6)) sNext) := ⟨_, (ps_if (pt_cmpR (op_eqD hu) (pv 1) pe_int (nomark _)) (pss_one (ps_set (i := 6) sc__law_changed.nd rfl (Or.inl rfl) (pe_ix ix_seq (pe_lst (pa_cons pe_str (pa_cons (pe_op op_add_str (pv 6) pe_str) (pa_cons (pe_op op_add_str (pe_slice sl_str (pv 6) po_none (po_some pe_int)) pe_str) (pa_cons (pe_op op_add_str (pe_slice sl_str (pv 6) po_none (po_some pe_int)) pe_str) (pa_cons (pe_op op_add_str (pe_slice sl_str (pv 6) po_none (po_some pe_int)) pe_str) (pa_cons (pe_op op_add_str pe_str (pe_slice sl_str (pv 6) po_none (po_some pe_int))) pa_nil))))))) (pe_op op_mod (pv 2) pe_int) (fun _ _ => rfl)) (hs := sw_Subscript))) pss_nil), (so_if (tto_test (eo_op opp_eq eo_var eo_int)) (so_asg (eo_op opp_ix (eo_lst (ao_cons eo_str (ao_cons (eo_op opp_addS eo_var eo_str) (ao_cons (eo_op opp_addS (eo_sl slp_str eo_var too_none (too_some eo_int)) eo_str) (ao_cons (eo_op opp_addS (eo_sl slp_str eo_var too_none (too_some eo_int)) eo_str) (ao_cons (eo_op opp_addS (eo_sl slp_str eo_var too_none (too_some eo_int)) eo_str) (ao_cons (eo_op opp_addS eo_str (eo_sl slp_str eo_var too_none (too_some eo_int))) ao_nil))))))) (eo_op opp_mod eo_var eo_int)) go_name) so_next)⟩
  obtain ⟨tq22, uq22, vq22⟩ : ∃ t, PT (X37 P w K mg base f cdv A outer s H E) z37_24 t ∧ TTO K E t (pBool (pOp eqD (pVar 1) (pC (.int 4)))) := ⟨_, (pt_cmpR (op_eqD hu) (pv 1) pe_int (nomark _)), (tto_test (eo_op opp_eq eo_var eo_int))⟩
  obtain ⟨tq26, uq26, vq26⟩ : ∃ t, PE (X37 P w K mg base f cdv A outer s H E) z37_29 t ∧ EO K E t (pVar 7) := ⟨_, (pv 7), eo_var⟩
  obtain ⟨tq28, uq28, vq28⟩ : ∃ t, PE (X37 P w K mg base f cdv A outer s H E) z37_31 t ∧ EO K E t (pTup (aCons (pC (.int 0)) aNil)) := ⟨_, (pe_tup (pa_cons pe_int pa_nil)), (eo_tup (ao_cons eo_int ao_nil))⟩
  obtain ⟨tq29, uq29, vq29⟩ : ∃ t, PE (X37 P w K mg base f cdv A outer s H E) z37_32 t ∧ EO K E t (pTup (aCons (pC (.int 1)) aNil)) := ⟨_, (pe_tup (pa_cons pe_int pa_nil)), (eo_tup (ao_cons eo_int ao_nil))⟩
  obtain ⟨tq30, uq30, vq30⟩ : ∃ t, PE (X37 P w K mg base f cdv A outer s H E) z37_33 t ∧ EO K E t (pTup (aCons (pC (.int 2)) aNil)) := ⟨_, (pe_tup (pa_cons pe_int pa_nil)), (eo_tup (ao_cons eo_int ao_nil))⟩
  obtain ⟨tq31, uq31, vq31⟩ : ∃ t, PE (X37 P w K mg base f cdv A outer s H E) z37_34 t ∧ EO K E t (pTup (aCons (pC (.int 3)) aNil)) := ⟨_, (pe_tup (pa_cons pe_int pa_nil)), (eo_tup (ao_cons eo_int ao_nil))⟩
  obtain ⟨tq32, uq32, vq32⟩ : ∃ t, PE (X37 P w K mg base f cdv A outer s H E) z37_35 t ∧ EO K E t (pTup (aCons (pC (.int 4)) aNil)) := ⟨_, (pe_tup (pa_cons pe_int pa_nil)), (eo_tup (ao_cons eo_int ao_nil))⟩
  obtain ⟨tq33, uq33, vq33⟩ : ∃ t, PE (X37 P w K mg base f cdv A outer s H E) z37_36 t ∧ EO K E t (pTup (aCons (pC (.int 5)) aNil)) := ⟨_, (pe_tup (pa_cons pe_int pa_nil)), (eo_tup (ao_cons eo_int ao_nil))⟩
  have stq27_0 : isSt z37_31 = false := rfl
  have stq27_1 : isSt z37_32 = false := rfl
  have stq27_2 : isSt z37_33 = false := rfl
  have stq27_3 : isSt z37_34 = false := rfl
  have stq27_4 : isSt z37_35 = false := rfl
  have stq27_5 : isSt z37_36 = false := rfl
  obtain ⟨xq27, pq27, hLq27⟩ : ∃ x1 pp, z37_30 = .Tuple [z37_31, z37_32, z37_33, z37_34, z37_35, z37_36] x1 pp := ⟨_, _, rfl⟩
  obtain ⟨tq27, uq27, vq27⟩ : ∃ t, PE (X37 P w K mg base f cdv A outer s H E) z37_30 t ∧ EO K E t (pTup (aCons (pTup (aCons (pC (.int 0)) aNil)) (aCons (pTup (aCons (pC (.int 1)) aNil)) (aCons (pTup (aCons (pC (.int 2)) aNil)) (aCons (pTup (aCons (pC (.int 3)) aNil)) (aCons (pTup (aCons (pC (.int 4)) aNil)) (aCons (pTup (aCons (pC (.int 5)) aNil)) aNil))))))) := by
    rw [hLq27]
    generalize z37_31 = z0 at *
    generalize z37_32 = z1 at *
    generalize z37_33 = z2 at *
    generalize z37_34 = z3 at *
    generalize z37_35 = z4 at *
    generalize z37_36 = z5 at *
    exact ⟨_, pe_tup (paC uq28 (paC uq29 (paC uq30 (paC uq31 (paC uq32 (paC uq33 pa_nil stq27_5) stq27_4) stq27_3) stq27_2) stq27_1) stq27_0), eo_tup (ao_cons vq28 (ao_cons vq29 (ao_cons vq30 (ao_cons vq31 (ao_cons vq32 (ao_cons vq33 ao_nil))))))⟩
  clear hLq27 stq27_0 stq27_1 stq27_2 stq27_3 stq27_4 stq27_5 uq28 vq28 uq29 vq29 uq30 vq30 uq31 vq31 uq32 vq32 uq33 vq33
  have hLq25 : z37_28 = .BinOp z37_29 .Add z37_30 (bP z37_28) := rfl
  obtain ⟨tq25, uq25, vq25⟩ : ∃ t, PE (X37 P w K mg base f cdv A outer s H E) z37_28 t ∧ EO K E t (pOp addE (pVar 7) (pTup (aCons (pTup (aCons (pC (.int 0)) aNil)) (aCons (pTup (aCons (pC (.int 1)) aNil)) (aCons (pTup (aCons (pC (.int 2)) aNil)) (aCons (pTup (aCons (pC (.int 3)) aNil)) (aCons (pTup (aCons (pC (.int 4)) aNil)) (aCons (pTup (aCons (pC (.int 5)) aNil)) aNil)))))))) := by
    rw [hLq25]
    generalize z37_29 = z0 at *
    generalize z37_30 = z1 at *
    generalize bP z37_28 = z2 at *
    exact ⟨_, pe_op op_addB uq26 uq27, eo_op opp_addE vq26 vq27⟩
  clear hLq25 uq26 vq26 uq27 vq27
  obtain ⟨tq34, uq34, vq34⟩ : ∃ t, PO (X37 P w K mg base f cdv A outer s H E) z37_37 t ∧ TOO K E t oNone := ⟨_, po_none, too_none⟩
  obtain ⟨tq35, uq35, vq35⟩ : ∃ t, PO (X37 P w K mg base f cdv A outer s H E) z37_38 t ∧ TOO K E t (oSome (pOp addE (pC (.int 6)) (pOp modD (pOp divD (pVar 2) (pC (.int 3))) (pC (.int 2))))) := ⟨_, po_some (pe_op op_addB pe_int (pe_op op_mod (pe_op op_fdivL (pv 2) pe_int) pe_int)), too_some (eo_op opp_addE eo_int (eo_op opp_mod (eo_op opp_div eo_var eo_int) eo_int))⟩
  have hLq24 : z37_27 = .Subscript z37_28 (.Slice z37_37 z37_38 none (slP (ss z37_27))) (sP z37_27) := rfl
  obtain ⟨tq24, uq24, vq24⟩ : ∃ t, PE (X37 P w K mg base f cdv A outer s H E) z37_27 t ∧ EO K E t (pSl slE (pOp addE (pVar 7) (pTup (aCons (pTup (aCons (pC (.int 0)) aNil)) (aCons (pTup (aCons (pC (.int 1)) aNil)) (aCons (pTup (aCons (pC (.int 2)) aNil)) (aCons (pTup (aCons (pC (.int 3)) aNil)) (aCons (pTup (aCons (pC (.int 4)) aNil)) (aCons (pTup (aCons (pC (.int 5)) aNil)) aNil)))))))) oNone (oSome (pOp addE (pC (.int 6)) (pOp modD (pOp divD (pVar 2) (pC (.int 3))) (pC (.int 2)))))) := by
    rw [hLq24]
    generalize z37_28 = z0 at *
    generalize z37_37 = z1 at *
    generalize z37_38 = z2 at *
    generalize slP (ss z37_27) = z3 at *
    generalize sP z37_27 = z4 at *
    exact ⟨_, pe_slice sl_anyB uq25 uq34 uq35, eo_sl slp_B vq25 vq34 vq35⟩
  clear hLq24 uq25 vq25 uq34 vq34 uq35 vq35
  have hSq23 : z37_25 = .Assign [.Name "_law_fuller" (nP z37_25)] z37_27 (aP z37_25) := rfl
  have swq23 : swapsWith z37_27 (some (.Name "_law_fuller" (nP z37_25))) (aP z37_25).line (X37 P w K mg base f cdv A outer s H E).env = pure false := rfl
  obtain ⟨tq23, uq23, vq23⟩ : ∃ t, PS (X37 P w K mg base f cdv A outer s H E) z37_25 t ∧ SO K E t (sAsg (pSl slE (pOp addE (pVar 7) (pTup (aCons (pTup (aCons (pC (.int 0)) aNil)) (aCons (pTup (aCons (pC (.int 1)) aNil)) (aCons (pTup (aCons (pC (.int 2)) aNil)) (aCons (pTup (aCons (pC (.int 3)) aNil)) (aCons (pTup (aCons (pC (.int 4)) aNil)) (aCons (pTup (aCons (pC (.int 5)) aNil)) aNil)))))))) oNone (oSome (pOp addE (pC (.int 6)) (pOp modD (pOp divD (pVar 2) (pC (.int 3))) (pC (.int 2)))))) (gN 9)) := by
    rw [hSq23]
    generalize z37_27 = z0 at *
    generalize nP z37_25 = z1 at *
    generalize aP z37_25 = z2 at *
    exact ⟨_, ps_set (i := 9) sc__law_changed.nd rfl (Or.inl rfl) uq24 (hs := swq23), so_asg vq24 go_name⟩
  clear hSq23 swq23 uq24 vq24
  obtain ⟨tq36, uq36, vq36⟩ : ∃ t, PS (X37 P w K mg base f cdv A outer s H E) z37_26 t ∧ SO K E t (sAsg (pOp ixD (pLst (aCons (pTup aNil) (aCons (pVar 9) (aCons (pVar 9) aNil)))) (pOp modD (pVar 2) (pC (.int 3)))) (gN 7)) := ⟨_, (ps_set (i := 7) sc__law_changed.nd rfl (Or.inl rfl) (pe_ix ix_seq (pe_lst (pa_cons (pe_tup pa_nil) (pa_cons (pv 9) (pa_cons (pv 9) pa_nil)))) (pe_op op_mod (pv 2) pe_int) (fun _ _ => rfl)) (hs := sw_Subscript)), (so_asg (eo_op opp_ix (eo_lst (ao_cons (eo_tup ao_nil) (ao_cons eo_var (ao_cons eo_var ao_nil)))) (eo_op opp_mod eo_var eo_int)) go_name)⟩
  have hSq21 : z37_8 = .If z37_24 [z37_25, z37_26] [] (iP z37_8) := rfl
  obtain ⟨tq21, uq21, vq21⟩ : ∃ t, PS (X37 P w K mg base f cdv A outer s H E) z37_8 t ∧ SO K E t (sIf (pBool (pOp eqD (pVar 1) (pC (.int 4)))) (sSeq (sAsg (pSl slE (pOp addE (pVar 7) (pTup (aCons (pTup (aCons (pC (.int 0)) aNil)) (aCons (pTup (aCons (pC (.int 1)) aNil)) (aCons (pTup (aCons (pC (.int 2)) aNil)) (aCons (pTup (aCons (pC (.int 3)) aNil)) (aCons (pTup (aCons (pC (.int 4)) aNil)) (aCons (pTup (aCons (pC (.int 5)) aNil)) aNil)))))))) oNone (oSome (pOp addE (pC (.int 6)) (pOp modD (pOp divD (pVar 2) (pC (.int 3))) (pC (.int 2)))))) (gN 9))
  (sAsg (pOp ixD (pLst (aCons (pTup aNil) (aCons (pVar 9) (aCons (pVar 9) aNil)))) (pOp modD (pVar 2) (pC (.int 3)))) (gN 7))) sNext) := by
    rw [hSq21]
    generalize z37_24 = z0 at *
    generalize iP z37_8 = z1 at *
    generalize z37_25 = z2 at *
    generalize z37_26 = z3 at *
    exact ⟨_, ps_if uq22 (pss_cons uq23
      (pss_one uq36)) pss_nil, so_if vq22 (so_seq vq23
      vq36) so_next⟩
  clear hSq21 uq22 vq22 uq23 vq23 uq36 vq36
  obtain ⟨tq38, uq38, vq38⟩ : ∃ t, PT (X37 P w K mg base f cdv A outer s H E) z37_39 t ∧ TTO K E t (pBool (pOp eqD (pVar 1) (pC (.int 5)))) := ⟨_, (pt_cmpR (op_eqD hu) (pv 1) pe_int (nomark _)), (tto_test (eo_op opp_eq eo_var eo_int))⟩
  obtain ⟨tq42, uq42, vq42⟩ : ∃ t, PE (X37 P w K mg base f cdv A outer s H E) z37_46 t ∧ EO K E t (pTup aNil) := ⟨_, (pe_tup pa_nil), (eo_tup ao_nil)⟩
  obtain ⟨tq43, uq43, vq43⟩ : ∃ t, PE (X37 P w K mg base f cdv A outer s H E) z37_47 t ∧ EO K E t (pTup (aCons (pC (.int 1)) (aCons (pC (.int 0)) aNil))) := ⟨_, (pe_tup (pa_cons pe_int (pa_cons pe_int pa_nil))), (eo_tup (ao_cons eo_int (ao_cons eo_int ao_nil)))⟩
  obtain ⟨tq44, uq44, vq44⟩ : ∃ t, PE (X37 P w K mg base f cdv A outer s H E) z37_48 t ∧ EO K E t (pTup (aCons (pC (.int 3)) (aCons (pC (.int 3)) aNil))) := ⟨_, (pe_tup (pa_cons pe_int (pa_cons pe_int pa_nil))), (eo_tup (ao_cons eo_int (ao_cons eo_int ao_nil)))⟩
  obtain ⟨tq45, uq45, vq45⟩ : ∃ t, PE (X37 P w K mg base f cdv A outer s H E) z37_49 t ∧ EO K E t (pTup (aCons (pUn negD (pC (.int 1))) (aCons (pC (.int 2)) aNil))) := ⟨_, (pe_tup (pa_cons (pe_un un_neg pe_int) (pa_cons pe_int pa_nil))), (eo_tup (ao_cons (eo_un unp_neg eo_int) (ao_cons eo_int ao_nil)))⟩
  obtain ⟨tq46, uq46, vq46⟩ : ∃ t, PE (X37 P w K mg base f cdv A outer s H E) z37_50 t ∧ EO K E t (pTup (aCons (pC (.int 2)) (aCons (pC (.int 12)) aNil))) := ⟨_, (pe_tup (pa_cons pe_int (pa_cons pe_int pa_nil))), (eo_tup (ao_cons eo_int (ao_cons eo_int ao_nil)))⟩
  obtain ⟨tq47, uq47, vq47⟩ : ∃ t, PE (X37 P w K mg base f cdv A outer s H E) z37_51 t ∧ EO K E t (pTup (aCons (pC (.int 12)) aNil)) := ⟨_, (pe_tup (pa_cons pe_int pa_nil)), (eo_tup (ao_cons eo_int ao_nil))⟩
  have stq41_0 : isSt z37_46 = false := rfl
  have stq41_1 : isSt z37_47 = false := rfl
  have stq41_2 : isSt z37_48 = false := rfl
  have stq41_3 : isSt z37_49 = false := rfl
  have stq41_4 : isSt z37_50 = false := rfl
  have stq41_5 : isSt z37_51 = false := rfl
  obtain ⟨pq41, hLq41⟩ : ∃ pp, z37_44 = .List [z37_46, z37_47, z37_48, z37_49, z37_50, z37_51] pp := ⟨_, rfl⟩
  obtain ⟨tq41, uq41, vq41⟩ : ∃ t, PE (X37 P w K mg base f cdv A outer s H E) z37_44 t ∧ EO K E t (pLst (aCons (pTup aNil) (aCons (pTup (aCons (pC (.int 1)) (aCons (pC (.int 0)) aNil))) (aCons (pTup (aCons (pC (.int 3)) (aCons (pC (.int 3)) aNil))) (aCons (pTup (aCons (pUn negD (pC (.int 1))) (aCons (pC (.int 2)) aNil))) (aCons (pTup (aCons (pC (.int 2)) (aCons (pC (.int 12)) aNil))) (aCons (pTup (aCons (pC (.int 12)) aNil)) aNil))))))) := by
    rw [hLq41]
    generalize z37_46 = z0 at *
    generalize z37_47 = z1 at *
    generalize z37_48 = z2 at *
    generalize z37_49 = z3 at *
    generalize z37_50 = z4 at *
    generalize z37_51 = z5 at *
    exact ⟨_, pe_lst (paC uq42 (paC uq43 (paC uq44 (paC uq45 (paC uq46 (paC uq47 pa_nil stq41_5) stq41_4) stq41_3) stq41_2) stq41_1) stq41_0), eo_lst (ao_cons vq42 (ao_cons vq43 (ao_cons vq44 (ao_cons vq45 (ao_cons vq46 (ao_cons vq47 ao_nil))))))⟩
  clear hLq41 stq41_0 stq41_1 stq41_2 stq41_3 stq41_4 stq41_5 uq42 vq42 uq43 vq43 uq44 vq44 uq45 vq45 uq46 vq46 uq47 vq47
  obtain ⟨tq48, uq48, vq48⟩ : ∃ t, PE (X37 P w K mg base f cdv A outer s H E) z37_45 t ∧ EO K E t (pOp modD (pVar 2) (pC (.int 6))) := ⟨_, (pe_op op_mod (pv 2) pe_int), (eo_op opp_mod eo_var eo_int)⟩
  have hpq40 : PlainIx z37_45 := fun _ _ => rfl
  have hLq40 : z37_43 = .Subscript z37_44 z37_45 (sP z37_43) := rfl
  obtain ⟨tq40, uq40, vq40⟩ : ∃ t, PE (X37 P w K mg base f cdv A outer s H E) z37_43 t ∧ EO K E t (pOp ixD (pLst (aCons (pTup aNil) (aCons (pTup (aCons (pC (.int 1)) (aCons (pC (.int 0)) aNil))) (aCons (pTup (aCons (pC (.int 3)) (aCons (pC (.int 3)) aNil))) (aCons (pTup (aCons (pUn negD (pC (.int 1))) (aCons (pC (.int 2)) aNil))) (aCons (pTup (aCons (pC (.int 2)) (aCons (pC (.int 12)) aNil))) (aCons (pTup (aCons (pC (.int 12)) aNil)) aNil))))))) (pOp modD (pVar 2) (pC (.int 6)))) := by
    rw [hLq40]
    generalize z37_44 = z0 at *
    generalize z37_45 = z1 at *
    generalize sP z37_43 = z2 at *
    exact ⟨_, pe_ix ix_seq uq41 uq48 hpq40, eo_op opp_ix vq41 vq48⟩
  clear hpq40 hLq40 uq41 vq41 uq48 vq48
  have hSq39 : z37_40 = .Assign [.Name "_law_some" (nP z37_40)] z37_43 (aP z37_40) := rfl
  have swq39 : swapsWith z37_43 (some (.Name "_law_some" (nP z37_40))) (aP z37_40).line (X37 P w K mg base f cdv A outer s H E).env = pure false := rfl
  obtain ⟨tq39, uq39, vq39⟩ : ∃ t, PS (X37 P w K mg base f cdv A outer s H E) z37_40 t ∧ SO K E t (sAsg (pOp ixD (pLst (aCons (pTup aNil) (aCons (pTup (aCons (pC (.int 1)) (aCons (pC (.int 0)) aNil))) (aCons (pTup (aCons (pC (.int 3)) (aCons (pC (.int 3)) aNil))) (aCons (pTup (aCons (pUn negD (pC (.int 1))) (aCons (pC (.int 2)) aNil))) (aCons (pTup (aCons (pC (.int 2)) (aCons (pC (.int 12)) aNil))) (aCons (pTup (aCons (pC (.int 12)) aNil)) aNil))))))) (pOp modD (pVar 2) (pC (.int 6)))) (gN 10)) := by
    rw [hSq39]
    generalize z37_43 = z0 at *
    generalize nP z37_40 = z1 at *
    generalize aP z37_40 = z2 at *
    exact ⟨_, ps_set (i := 10) sc__law_changed.nd rfl (Or.inl rfl) uq40 (hs := swq39), so_asg vq40 go_name⟩
  clear hSq39 swq39 uq40 vq40
  obtain ⟨tq49, uq49, vq49⟩ : ∃ t, PS (X37 P w K mg base f cdv A outer s H E) z37_41 t ∧ SO K E t (sAsg (pOp modD (pOp divD (pVar 2) (pC (.int 6))) (pCB max2D (aCons (pC (.int 1)) (aCons (pCB lenD (aCons (pVar 7) aNil)) aNil)))) (gN 8)) := ⟨_, (ps_set (i := 8) sc__law_changed.nd rfl (Or.inl rfl) (pe_op op_mod (pe_op op_fdivL (pv 2) pe_int) (pe_callB (call_max2 rfl) rfl z_max b_max (pa_cons pe_int (pa_cons (pe_callB call_len rfl z_len b_len (pa_cons (pv 7) pa_nil)) pa_nil)))) (hs := sw_BinOp)), (so_asg (eo_op opp_mod (eo_op opp_div eo_var eo_int) (eo_cb cb_max2 (ao_cons eo_int (ao_cons (eo_cb cb_len (ao_cons eo_var ao_nil)) ao_nil)))) go_name)⟩
  obtain ⟨tq50, uq50, vq50⟩ : ∃ t, PS (X37 P w K mg base f cdv A outer s H E) z37_42 t ∧ SO K E t (sAsg (pOp addE (pOp addE (pSl slE (pVar 7) oNone (oSome (pVar 8))) (pTup (aCons (pVar 10) aNil))) (pSl slE (pVar 7) (oSome (pOp addE (pVar 8) (pC (.int 1)))) oNone)) (gN 7)) := ⟨_, (ps_set (i := 7) sc__law_changed.nd rfl (Or.inl rfl) (pe_op op_addB (pe_op op_addB (pe_slice sl_anyB (pv 7) po_none (po_some (pv 8))) (pe_tup (pa_cons (pv 10) pa_nil))) (pe_slice sl_anyB (pv 7) (po_some (pe_op op_addB (pv 8) pe_int)) po_none)) (hs := sw_BinOp)), (so_asg (eo_op opp_addE (eo_op opp_addE (eo_sl slp_B eo_var too_none (too_some eo_var)) (eo_tup (ao_cons eo_var ao_nil))) (eo_sl slp_B eo_var (too_some (eo_op opp_addE eo_var eo_int)) too_none)) go_name)⟩
  have hSq37 : z37_9 = .If z37_39 [z37_40, z37_41, z37_42] [] (iP z37_9) := rfl
  obtain ⟨tq37, uq37, vq37⟩ : ∃ t, PS (X37 P w K mg base f cdv A outer s H E) z37_9 t ∧ SO K E t (sIf (pBool (pOp eqD (pVar 1) (pC (.int 5)))) (sSeq (sAsg (pOp ixD (pLst (aCons (pTup aNil) (aCons (pTup (aCons (pC (.int 1)) (aCons (pC (.int 0)) aNil))) (aCons (pTup (aCons (pC (.int 3)) (aCons (pC (.int 3)) aNil))) (aCons (pTup (aCons (pUn negD (pC (.int 1))) (aCons (pC (.int 2)) aNil))) (aCons (pTup (aCons (pC (.int 2)) (aCons (pC (.int 12)) aNil))) (aCons (pTup (aCons (pC (.int 12)) aNil)) aNil))))))) (pOp modD (pVar 2) (pC (.int 6)))) (gN 10))
  (sSeq (sAsg (pOp modD (pOp divD (pVar 2) (pC (.int 6))) (pCB max2D (aCons (pC (.int 1)) (aCons (pCB lenD (aCons (pVar 7) aNil)) aNil)))) (gN 8))
  (sAsg (pOp addE (pOp addE (pSl slE (pVar 7) oNone (oSome (pVar 8))) (pTup (aCons (pVar 10) aNil))) (pSl slE (pVar 7) (oSome (pOp addE (pVar 8) (pC (.int 1)))) oNone)) (gN 7)))) sNext) := by
    rw [hSq37]
    generalize z37_39 = z0 at *
    generalize iP z37_9 = z1 at *
    generalize z37_40 = z2 at *
    generalize z37_41 = z3 at *
    generalize z37_42 = z4 at *
    exact ⟨_, ps_if uq38 (pss_cons uq39
      (pss_cons uq49
      (pss_one uq50))) pss_nil, so_if vq38 (so_seq vq39
      (so_seq vq49
      vq50)) so_next⟩
  clear hSq37 uq38 vq38 uq39 vq39 uq49 vq49 uq50 vq50
  obtain ⟨tq51, uq51, vq51⟩ : ∃ t, PS (X37 P w K mg base f cdv A outer s H E) z37_10 t ∧ SO K E t (sRet (pOp addE (pOp addE (pSl slE (pVar 0) oNone (oSome (pVar 5))) (pTup (aCons (pTup (aCons (pVar 6) (aCons (pVar 7) aNil))) aNil))) (pSl slE (pVar 0) (oSome (pOp addE (pVar 5) (pC (.int 1)))) oNone))) := ⟨_, (ps_ret (pe_op op_addB (pe_op op_addB (pe_slice sl_anyB (pv 0) po_none (po_some (pv 5))) (pe_tup (pa_cons (pe_tup (pa_cons (pv 6) (pa_cons (pv 7) pa_nil))) pa_nil))) (pe_slice sl_anyB (pv 0) (po_some (pe_op op_addB (pv 5) pe_int)) po_none))), (so_ret (eo_op opp_addE (eo_op opp_addE (eo_sl slp_B eo_var too_none (too_some eo_var)) (eo_tup (ao_cons (eo_tup (ao_cons eo_var (ao_cons eo_var ao_nil))) ao_nil))) (eo_sl slp_B eo_var (too_some (eo_op opp_addE eo_var eo_int)) too_none)))⟩
  have hb : (defBody (top 37)) = [z37_1, z37_2, z37_3, z37_4, z37_5, z37_6, z37_7, z37_8, z37_9, z37_10] := rfl
  rw [hb]
  generalize z37_1 = z0 at *
  generalize z37_2 = z1 at *
  generalize z37_3 = z2 at *
  generalize z37_4 = z3 at *
  generalize z37_5 = z4 at *
  generalize z37_6 = z5 at *
  generalize z37_7 = z6 at *
  generalize z37_8 = z7 at *
  generalize z37_9 = z8 at *
  generalize z37_10 = z9 at *
  exact ⟨_, (pss_cons uq1
      (pss_cons uq2
      (pss_cons uq7
      (pss_cons uq8
      (pss_cons uq9
      (pss_cons uq10
      (pss_cons uq20
      (pss_cons uq21
      (pss_cons uq37
      (pss_one uq51)))))))))), (so_seq vq1
      (so_seq vq2
      (so_seq vq7
      (so_seq vq8
      (so_seq vq9
      (so_seq vq10
      (so_seq vq20
      (so_seq vq21
      (so_seq vq37
      vq51)))))))))⟩
theorem sc_is_letter : FnScope ["text"] ["text"] (defScope (top 14)) := ⟨rfl, rfl, rfl, by decide +kernel, rfl, by decide +kernel, by decide +kernel⟩
theorem ok_is_letter (F : Fun K "is_letter" "is_letter" (top 14) f fd) (z_len : mg "len" = none) : FnOk P w K mg base CX0 1 f fd ["text"] (spP K 1 F_is_letter) := by
  refine okF (k := 0) (n := 1) (m := 1) (g := g_is_letter) (FF := F_is_letter) F sc_is_letter rfl rfl rfl (fun cdv A outer s H E hr => ?_)
  have hu := hr.units
  have hv : (A.deeper (PyProof.Rows.envOfC "is_letter" (defScope (top 14)) s.heap.objs.size f cdv)).units + 65 < cLine := by have := hr.un; omega
  exact ⟨_, (pss_one (ps_ret (pe_and (pe_cmpR (op_eqD hu) (pe_callB call_len rfl z_len b_len (pa_cons (pv 0) pa_nil)) pe_int (nomark _)) (pe_one (pe_chain op_leS op_leS pe_str (pv 0) pe_str))))), (so_ret (eo_and (eo_op opp_eq (eo_cb cb_lenS (ao_cons eo_var ao_nil)) eo_int) (eo_chain opp_leS opp_leS eo_str eo_var eo_str)))⟩
theorem sc_is_word : FnScope ["text"] ["text"] (defScope (top 21)) := ⟨rfl, rfl, rfl, by decide +kernel, rfl, by decide +kernel, by decide +kernel⟩
theorem ok_is_word (F : Fun K "is_word" "is_word" (top 21) f fd) (c_is_letter : CalP P w K mg base 1 "is_letter" ["text"] 1 F_is_letter) (z_len : mg "len" = none) (z_all : mg "all" = none) {t_MOST_LETTERS : Tok} (m_MOST_LETTERS : mg "MOST_LETTERS" = some (.int 8 t_MOST_LETTERS)) : FnOk P w K mg base CX0 2 f fd ["text"] (spP K 1 F_is_word) := by
  refine okF (k := 1) (n := 1) (m := 1) (g := g_is_word) (FF := F_is_word) F sc_is_word rfl rfl rfl (fun cdv A outer s H E hr => ?_)
  have hu := hr.units
  have hv : (A.deeper (PyProof.Rows.envOfC "is_word" (defScope (top 21)) s.heap.objs.size f cdv)).units + 65 < cLine := by have := hr.un; omega
  exact ⟨_, (pss_one (ps_ret (pe_and (pe_chain op_le op_le pe_int (pe_callB call_len rfl z_len b_len (pa_cons (pv 0) pa_nil)) (pe_glob (v := .int 8) rfl m_MOST_LETTERS ⟨_, rfl⟩)) (pe_one (pe_callB (call_all rfl) rfl z_all b_all (pa_cons (pe_comp ["sign"] [] rfl (pi_str (pv 0)) (fun _ _ _ _ => (pg_name (i := 0) (show List.Nodup (["sign"] : List Str) by decide +kernel) rfl (Or.inl rfl))) (fun _ _ _ _ => pifs_nil) (fun _ _ _ _ => (pe_cal c_is_letter hr (pa_cons (pv 0) pa_nil))) trivial rfl) pa_nil)))))), (so_ret (eo_and (eo_chain opp_le opp_le eo_int (eo_cb cb_lenS (ao_cons eo_var ao_nil)) eo_int) (eo_cb cb_all (ao_cons (eo_comp rfl rfl (io_signs eo_var) go_name tto_true (eo_cal (ao_cons eo_var ao_nil))) ao_nil))))⟩
theorem sc_rises : FnScope ["keys"] ["keys"] (defScope (top 13)) := ⟨rfl, rfl, rfl, by decide +kernel, rfl, by decide +kernel, by decide +kernel⟩
theorem ok_rises (F : Fun K "rises" "rises" (top 13) f fd) (z_all : mg "all" = none) (z_zip : mg "zip" = none) : FnOk P w K mg base CX0 1 f fd ["keys"] (spP K 1 F_rises) := by
  refine okF (k := 0) (n := 1) (m := 1) (g := g_rises) (FF := F_rises) F sc_rises rfl rfl rfl (fun cdv A outer s H E hr => ?_)
  have hu := hr.units
  have hv : (A.deeper (PyProof.Rows.envOfC "rises" (defScope (top 13)) s.heap.objs.size f cdv)).units + 65 < cLine := by have := hr.un; omega
  exact ⟨_, (pss_one (ps_ret (pe_callB (call_all rfl) rfl z_all b_all (pa_cons (pe_comp ["one", "other"] [] rfl (pi_zip rfl z_zip (pa_cons (pv 0) (pa_cons (pe_slice sl_any (pv 0) (po_some pe_int) po_none) pa_nil))) (fun _ _ _ _ => (pg_tup rfl (pgs_cons (pg_name (i := 0) (show List.Nodup (["one", "other"] : List Str) by decide +kernel) rfl (Or.inl rfl)) (pgs_cons (pg_name (i := 1) (show List.Nodup (["one", "other"] : List Str) by decide +kernel) rfl (Or.inl rfl)) pgs_nil)))) (fun _ _ _ _ => pifs_nil) (fun _ _ _ _ => (pe_cmpR op_lt (pv 0) (pv 1) (nomark _))) trivial rfl) pa_nil)))), (so_ret (eo_cb cb_all (ao_cons (eo_comp rfl rfl (io_zip (ao_cons eo_var (ao_cons (eo_sl slp_any eo_var (too_some eo_int) too_none) ao_nil))) (go_tup (gs_cons go_name (gs_cons go_name gs_nil))) tto_true (eo_op opp_lt eo_var eo_var)) ao_nil)))⟩
theorem sc_is_stroke : FnScope ["keys"] ["keys"] (defScope (top 23)) := ⟨rfl, rfl, rfl, by decide +kernel, rfl, by decide +kernel, by decide +kernel⟩
theorem ok_is_stroke (F : Fun K "is_stroke" "is_stroke" (top 23) f fd) (c_rises : CalP P w K mg base 1 "rises" ["keys"] 1 F_rises) (z_len : mg "len" = none) (z_all : mg "all" = none) {t_STROKE_KEYS : Tok} (m_STROKE_KEYS : mg "STROKE_KEYS" = some (.int 12 t_STROKE_KEYS)) : FnOk P w K mg base CX0 2 f fd ["keys"] (spP K 1 F_is_stroke) := by
  refine okF (k := 1) (n := 1) (m := 1) (g := g_is_stroke) (FF := F_is_stroke) F sc_is_stroke rfl rfl rfl (fun cdv A outer s H E hr => ?_)
  have hu := hr.units
  have hv : (A.deeper (PyProof.Rows.envOfC "is_stroke" (defScope (top 23)) s.heap.objs.size f cdv)).units + 65 < cLine := by have := hr.un; omega
  exact ⟨_, (pss_one (ps_ret (pe_and (pe_cmpR op_ge (pe_callB call_len rfl z_len b_len (pa_cons (pv 0) pa_nil)) pe_int (nomark _)) (pe_and (pe_cal c_rises hr (pa_cons (pv 0) pa_nil)) (pe_one (pe_callB (call_all rfl) rfl z_all b_all (pa_cons (pe_comp ["key"] [] rfl (pi_seq (pv 0)) (fun _ _ _ _ => (pg_name (i := 0) (show List.Nodup (["key"] : List Str) by decide +kernel) rfl (Or.inl rfl))) (fun _ _ _ _ => pifs_nil) (fun _ _ _ _ => (pe_chain op_le op_lt pe_int (pv 0) (pe_glob (v := .int 12) rfl m_STROKE_KEYS ⟨_, rfl⟩))) trivial rfl) pa_nil))))))), (so_ret (eo_and (eo_op opp_ge (eo_cb cb_len (ao_cons eo_var ao_nil)) eo_int) (eo_and (eo_cal (ao_cons eo_var ao_nil)) (eo_cb cb_all (ao_cons (eo_comp rfl rfl (io_seq eo_var) go_name tto_true (eo_chain opp_le opp_lt eo_int eo_var eo_int)) ao_nil)))))⟩
theorem sc_are_strokes : FnScope ["strokes"] ["strokes"] (defScope (top 22)) := ⟨rfl, rfl, rfl, by decide +kernel, rfl, by decide +kernel, by decide +kernel⟩
theorem ok_are_strokes (F : Fun K "are_strokes" "are_strokes" (top 22) f fd) (c_is_stroke : CalP P w K mg base 2 "is_stroke" ["keys"] 1 F_is_stroke) (z_len : mg "len" = none) (z_all : mg "all" = none) {t_MOST_STROKES : Tok} (m_MOST_STROKES : mg "MOST_STROKES" = some (.int 6 t_MOST_STROKES)) : FnOk P w K mg base CX0 3 f fd ["strokes"] (spP K 1 F_are_strokes) := by
  refine okF (k := 2) (n := 1) (m := 1) (g := g_are_strokes) (FF := F_are_strokes) F sc_are_strokes rfl rfl rfl (fun cdv A outer s H E hr => ?_)
  have hu := hr.units
  have hv : (A.deeper (PyProof.Rows.envOfC "are_strokes" (defScope (top 22)) s.heap.objs.size f cdv)).units + 65 < cLine := by have := hr.un; omega
  exact ⟨_, (pss_one (ps_ret (pe_and (pe_chain op_le op_le pe_int (pe_callB call_len rfl z_len b_len (pa_cons (pv 0) pa_nil)) (pe_glob (v := .int 6) rfl m_MOST_STROKES ⟨_, rfl⟩)) (pe_one (pe_callB (call_all rfl) rfl z_all b_all (pa_cons (pe_comp ["keys"] [] rfl (pi_seq (pv 0)) (fun _ _ _ _ => (pg_name (i := 0) (show List.Nodup (["keys"] : List Str) by decide +kernel) rfl (Or.inl rfl))) (fun _ _ _ _ => pifs_nil) (fun _ _ _ _ => (pe_cal c_is_stroke hr (pa_cons (pv 0) pa_nil))) trivial rfl) pa_nil)))))), (so_ret (eo_and (eo_chain opp_le opp_le eo_int (eo_cb cb_len (ao_cons eo_var ao_nil)) eo_int) (eo_cb cb_all (ao_cons (eo_comp rfl rfl (io_seq eo_var) go_name tto_true (eo_cal (ao_cons eo_var ao_nil))) ao_nil))))⟩
theorem sc_checked_book : FnScope ["book", "place", "entry", "told_ahead"] ["book"] (defScope (top 20)) := ⟨rfl, rfl, rfl, by decide +kernel, rfl, by decide +kernel, by decide +kernel⟩
theorem sc__law_good : FnScope ["_law_book_here", "_law_at", "_law_word", "_law_strokes", "_law_some"] ["_law_book_here", "_law_at"] (defScope (top 38)) := ⟨rfl, rfl, rfl, by decide +kernel, rfl, by decide +kernel, by decide +kernel⟩
theorem ok__law_good (F : Fun K "_law_good" "_law_good" (top 38) f fd) (z_range : mg "range" = none) (z_len : mg "len" = none) (z_all : mg "all" = none) (z_list : mg "list" = none) (z_sorted : mg "sorted" = none) (z_set : mg "set" = none) : FnOk P w K mg base CX0 1 f fd ["_law_book_here", "_law_at"] (spP K 2 F__law_good) := by
  refine okF (k := 0) (n := 2) (m := 5) (g := g__law_good) (FF := F__law_good) F sc__law_good rfl rfl rfl (fun cdv A outer s H E hr => ?_)
  have hu := hr.units
  have hv : (A.deeper (PyProof.Rows.envOfC "_law_good" (defScope (top 38)) s.heap.objs.size f cdv)).units + 65 < cLine := by have := hr.un; omega
  exact ⟨_, (pss_cons (ps_asg (pe_ix ix_seq (pv 0) (pv 1) (fun _ _ => rfl)) (pg_tup rfl (pgs_cons (pg_name (i := 2) sc__law_good.nd rfl (Or.inl rfl)) (pgs_cons (pg_name (i := 3) sc__law_good.nd rfl (Or.inl rfl)) pgs_nil))))
      (pss_cons (ps_if (PW.pt (pw_or (pt_cmpR L9.op_ninR (pe_callB call_len rfl z_len b_len (pa_cons (pv 2) pa_nil)) (pe_callTy L9.call_rng2 rfl z_range L9.b_range (pa_cons pe_int (pa_cons pe_int pa_nil))) (by with_unfolding_all rfl)) (pw_or1 (pt_not (pt_val (pe_callB (call_all rfl) rfl z_all b_all (pa_cons (pe_comp ["_law_sign"] [] rfl (pi_str (pv 2)) (fun _ _ _ _ => (pg_name (i := 0) (show List.Nodup (["_law_sign"] : List Str) by decide +kernel) rfl (Or.inl rfl))) (fun _ _ _ _ => pifs_nil) (fun _ _ _ _ => (pe_chain op_leS op_leS pe_str (pv 0) pe_str)) trivial rfl) pa_nil))))))) (pss_one (ps_ret pe_bl)) pss_nil)
      (pss_cons (ps_if (PW.pt (pw_or (pt_cmpR (op_inD hv) (pv 2) (pe_comp ["_law_name", "_law_some"] [] rfl (pi_seq (pe_slice sl_anyB (pv 0) po_none (po_some (pv 1)))) (fun _ _ _ _ => (pg_tup rfl (pgs_cons (pg_name (i := 0) (show List.Nodup (["_law_name", "_law_some"] : List Str) by decide +kernel) rfl (Or.inl rfl)) (pgs_cons (pg_name (i := 1) (show List.Nodup (["_law_name", "_law_some"] : List Str) by decide +kernel) rfl (Or.inl rfl)) pgs_nil)))) (fun _ _ _ _ => pifs_nil) (fun _ _ _ _ => (pv 0)) trivial rfl) (by with_unfolding_all rfl)) (pw_or1 (pt_cmpR L9.op_ninR (pe_callB call_len rfl z_len b_len (pa_cons (pv 3) pa_nil)) (pe_callTy L9.call_rng2 rfl z_range L9.b_range (pa_cons pe_int (pa_cons pe_int pa_nil))) (by with_unfolding_all rfl))))) (pss_one (ps_ret pe_bl)) pss_nil)
      (pss_cons (ps_for PassesOwn.never rfl (pi_seq (pv 3)) (pg_name (i := 4) sc__law_good.nd rfl (Or.inl rfl)) (pss_one (ps_if (PW.pt (pw_or (pt_cmpR (op_eqD hu) (pe_callB call_len rfl z_len b_len (pa_cons (pv 4) pa_nil)) pe_int (nomark _)) (pw_or (pt_cmpR op_lt (pe_ix ix_seq (pv 4) pe_int (fun _ _ => rfl)) pe_int (nomark _)) (pw_or (pt_cmpR op_gt (pe_ix ix_seq (pv 4) (pe_un un_neg pe_int) (fun _ _ => rfl)) pe_int (nomark _)) (pw_or (pt_cmpR (op_neD hu) (pe_callTy call_list_of rfl z_list b_list (pa_cons (pv 4) pa_nil)) (pe_callB L9.call_sortedB rfl z_sorted b_sorted (pa_cons (pv 4) pa_nil)) (nomark _)) (pw_or1 (pt_cmpR op_lt (pe_callB L9.call_lenSet rfl z_len b_len (pa_cons (pe_callTy (L9.call_setT rfl) rfl z_set L9.b_set (pa_cons (pv 4) pa_nil)) pa_nil)) (pe_callB call_len rfl z_len b_len (pa_cons (pv 4) pa_nil)) (nomark _)))))))) (pss_one (ps_ret pe_bl)) pss_nil)))
      (pss_one (ps_ret pe_bl)))))), (so_seq (so_asg (eo_op opp_ix eo_var eo_var) (go_tup (gs_cons go_name (gs_cons go_name gs_nil))))
      (so_seq (so_if (tto_or (tto_test (L9.eo_inR (eo_cb cb_lenS (ao_cons eo_var ao_nil)) (ao_cons eo_int (ao_cons eo_int ao_nil)))) (tto_not (tto_b (eo_cb cb_all (ao_cons (eo_comp rfl rfl (io_signs eo_var) go_name tto_true (eo_chain opp_leS opp_leS eo_str eo_var eo_str)) ao_nil))))) (so_ret eo_bl) so_next)
      (so_seq (so_if (tto_or (tto_test (eo_op opp_in eo_var (eo_comp rfl rfl (io_seq (eo_sl slp_B eo_var too_none (too_some eo_var))) (go_tup (gs_cons go_name (gs_cons go_name gs_nil))) tto_true eo_var))) (tto_test (L9.eo_inR (eo_cb cb_len (ao_cons eo_var ao_nil)) (ao_cons eo_int (ao_cons eo_int ao_nil))))) (so_ret eo_bl) so_next)
      (so_seq (so_for (io_seq eo_var) go_name (so_if (tto_or (tto_test (eo_op opp_eq (eo_cb cb_len (ao_cons eo_var ao_nil)) eo_int)) (tto_or (tto_test (eo_op opp_lt (eo_op opp_ix eo_var eo_int) eo_int)) (tto_or (tto_test (eo_op opp_gt (eo_op opp_ix eo_var (eo_un unp_neg eo_int)) eo_int)) (tto_or (tto_test (eo_op opp_ne (eo_cb cb_list (ao_cons eo_var ao_nil)) (eo_cb L9.cb_sortedE (ao_cons eo_var ao_nil)))) (tto_test (eo_op opp_lt (L9.eo_lenSet (ao_cons eo_var ao_nil)) (eo_cb cb_len (ao_cons eo_var ao_nil)))))))) (so_ret eo_bl) so_next))
      (so_ret eo_bl)))))⟩
theorem sc__law_due : FnScope ["_law_book_here", "_law_at"] ["_law_book_here"] (defScope (top 39)) := ⟨rfl, rfl, rfl, by decide +kernel, rfl, by decide +kernel, by decide +kernel⟩
theorem ok__law_due (F : Fun K "_law_due" "_law_due" (top 39) f fd) (c__law_good : CalP P w K mg base 1 "_law_good" ["_law_book_here", "_law_at"] 2 F__law_good) (z_range : mg "range" = none) (z_len : mg "len" = none) : FnOk P w K mg base CX0 2 f fd ["_law_book_here"] (spP K 1 F__law_due) := by
  refine okF (k := 1) (n := 1) (m := 2) (g := g__law_due) (FF := F__law_due) F sc__law_due rfl rfl rfl (fun cdv A outer s H E hr => ?_)
  have hu := hr.units
  have hv : (A.deeper (PyProof.Rows.envOfC "_law_due" (defScope (top 39)) s.heap.objs.size f cdv)).units + 65 < cLine := by have := hr.un; omega
  exact ⟨_, (pss_cons (ps_if (pt_cmpR L9.op_ninR (pe_callB call_len rfl z_len b_len (pa_cons (pv 0) pa_nil)) (pe_callTy L9.call_rng2 rfl z_range L9.b_range (pa_cons pe_int (pa_cons pe_int pa_nil))) (by with_unfolding_all rfl)) (pss_one (ps_ret (pe_tup (pa_cons pe_non pa_nil)))) pss_nil)
      (pss_cons (ps_for PassesOwn.never rfl (pi_range1 rfl z_range (pa_cons (pe_callB call_len rfl z_len b_len (pa_cons (pv 0) pa_nil)) pa_nil)) (pg_name (i := 1) sc__law_due.nd rfl (Or.inl rfl)) (pss_one (ps_if (pt_not (pt_val (pe_cal c__law_good hr (pa_cons (pv 0) (pa_cons (pv 1) pa_nil))))) (pss_one (ps_ret (pe_tup (pa_cons (pv 1) pa_nil)))) pss_nil)))
      (pss_one (ps_ret pe_non)))), (so_seq (so_if (tto_test (L9.eo_inR (eo_cb cb_len (ao_cons eo_var ao_nil)) (ao_cons eo_int (ao_cons eo_int ao_nil)))) (so_ret (eo_tup (ao_cons eo_non ao_nil))) so_next)
      (so_seq (so_for (io_rng1 (ao_cons (eo_cb cb_len (ao_cons eo_var ao_nil)) ao_nil)) go_name (so_if (tto_not (tto_b (eo_cal (ao_cons eo_var (ao_cons eo_var ao_nil))))) (so_ret (eo_tup (ao_cons eo_var ao_nil))) so_next))
      (so_ret eo_non)))⟩
theorem sc_law : FnScope ["_law_script", "_law_good_here", "_law_book_here", "_law_k", "_law_way"] ["_law_script"] (defScope (top 41)) := ⟨rfl, rfl, rfl, by decide +kernel, rfl, by decide +kernel, by decide +kernel⟩
theorem ok_law (F : Fun K "law" "law" (top 41) f fd) (c__law_book : CalP P w K mg base 3 "_law_book" ["_law_script", "_law_at"] 2 F__law_book) (c__law_cell : CalP P w K mg base 1 "_law_cell" ["_law_script", "_law_k"] 2 F__law_cell) (c__law_wide : CalP P w K mg base 2 "_law_wide" ["_law_cell_here", "_law_salt"] 2 F__law_wide) (c__law_changed : CalP P w K mg base 1 "_law_changed" ["_law_book_here", "_law_way", "_law_x"] 3 F__law_changed) (c__law_told : CalP P w K mg base 5 "_law_told" ["_law_book_here"] 1 F__law_told) (c__law_due : CalP P w K mg base 2 "_law_due" ["_law_book_here"] 1 F__law_due) (z_range : mg "range" = none) (z_len : mg "len" = none) : FnOk P w K mg base CX0 6 f fd ["_law_script"] (spP K 1 F_law) := by
  refine okF (k := 5) (n := 1) (m := 5) (g := g_law) (FF := F_law) F sc_law rfl rfl rfl (fun cdv A outer s H E hr => ?_)
  have hu := hr.units
  have hv : (A.deeper (PyProof.Rows.envOfC "law" (defScope (top 41)) s.heap.objs.size f cdv)).units + 65 < cLine := by have := hr.un; omega
  exact ⟨_, (pss_cons (ps_set (i := 1) sc_law.nd rfl (Or.inl rfl) (pe_cal c__law_book hr (pa_cons (pv 0) (pa_cons pe_int pa_nil))))
      (pss_cons (ps_set (i := 2) sc_law.nd rfl (Or.inl rfl) (pv 1))
      (pss_cons (ps_for PassesOwn.never rfl (pi_range1 rfl z_range (pa_cons (pe_op op_mod (pe_cal c__law_wide hr (pa_cons (pe_cal c__law_cell hr (pa_cons (pv 0) (pa_cons pe_int pa_nil))) (pa_cons pe_int pa_nil))) pe_int) pa_nil)) (pg_name (i := 3) sc_law.nd rfl (Or.inl rfl)) (pss_one (ps_if (pt_cmpR op_gt (pe_callB call_len rfl z_len b_len (pa_cons (pv 2) pa_nil)) pe_int (nomark _)) (pss_cons (ps_set (i := 4) sc_law.nd rfl (Or.inl rfl) (pe_op op_mod (pe_cal c__law_wide hr (pa_cons (pe_cal c__law_cell hr (pa_cons (pv 0) (pa_cons (pe_op op_addA pe_int (pe_op op_mulB pe_int (pv 3))) pa_nil))) (pa_cons (pe_op op_addA pe_int (pv 3)) pa_nil))) pe_int))
      (pss_one (ps_set (i := 2) sc_law.nd rfl (Or.inl rfl) (pe_cal c__law_changed hr (pa_cons (pv 2) (pa_cons (pv 4) (pa_cons (pe_cal c__law_wide hr (pa_cons (pe_cal c__law_cell hr (pa_cons (pv 0) (pa_cons (pe_op op_addA pe_int (pe_op op_mulB pe_int (pv 3))) pa_nil))) (pa_cons (pe_op op_addA pe_int (pv 3)) pa_nil))) pa_nil))))))) pss_nil)))
      (pss_one (ps_ret (pe_and (pe_cmpR (op_eqD hu) (pe_cal c__law_told hr (pa_cons (pv 2) pa_nil)) (pe_cal c__law_due hr (pa_cons (pv 2) pa_nil)) (nomark _)) (pe_one (pe_cmpR op_isN (pe_cal c__law_told hr (pa_cons (pv 1) pa_nil)) pe_non (nomark _))))))))), (so_seq (so_asg (eo_cal (ao_cons eo_var (ao_cons eo_int ao_nil))) go_name)
      (so_seq (so_asg eo_var go_name)
      (so_seq (so_for (io_rng1 (ao_cons (eo_op opp_mod (eo_cal (ao_cons (eo_cal (ao_cons eo_var (ao_cons eo_int ao_nil))) (ao_cons eo_int ao_nil))) eo_int) ao_nil)) go_name (so_if (tto_test (eo_op opp_gt (eo_cb cb_len (ao_cons eo_var ao_nil)) eo_int)) (so_seq (so_asg (eo_op opp_mod (eo_cal (ao_cons (eo_cal (ao_cons eo_var (ao_cons (eo_op opp_add eo_int (eo_op opp_mulE eo_int eo_var)) ao_nil))) (ao_cons (eo_op opp_add eo_int eo_var) ao_nil))) eo_int) go_name)
      (so_asg (eo_cal (ao_cons eo_var (ao_cons eo_var (ao_cons (eo_cal (ao_cons (eo_cal (ao_cons eo_var (ao_cons (eo_op opp_add eo_int (eo_op opp_mulE eo_int eo_var)) ao_nil))) (ao_cons (eo_op opp_add eo_int eo_var) ao_nil))) ao_nil)))) go_name)) so_next))
      (so_ret (eo_and (eo_op opp_eq (eo_cal (ao_cons eo_var ao_nil)) (eo_cal (ao_cons eo_var ao_nil))) (eo_op opp_isn (eo_cal (ao_cons eo_var ao_nil)) eo_non))))))⟩
theorem sc__law_whole : FnScope ["_law_thing"] ["_law_thing"] (defScope (top 29)) := ⟨rfl, rfl, rfl, by decide +kernel, rfl, by decide +kernel, by decide +kernel⟩
theorem ok__law_whole (F : Fun K "_law_whole" "_law_whole" (top 29) f fd) (z_isinstance : mg "isinstance" = none) (z_int : mg "int" = none) (z_bool : mg "bool" = none) : FnOk P w K mg base CX0 1 f fd ["_law_thing"] (spP K 1 F__law_whole) := by
  refine okF (k := 0) (n := 1) (m := 1) (g := g__law_whole) (FF := F__law_whole) F sc__law_whole rfl rfl rfl (fun cdv A outer s H E hr => ?_)
  have hu := hr.units
  have hv : (A.deeper (PyProof.Rows.envOfC "_law_whole" (defScope (top 29)) s.heap.objs.size f cdv)).units + 65 < cLine := by have := hr.un; omega
  exact ⟨_, (pss_one (ps_ret (pe_and (pe_callB call_isiA rfl z_isinstance b_isinstance (pa_cons (pv 0) (pa_cons (pe_bltn (v := .ty "int") rfl z_int b_int rfl) pa_nil))) (pe_one (pe_not (pe_callB call_isiA rfl z_isinstance b_isinstance (pa_cons (pv 0) (pa_cons (pe_bltn (v := .ty "bool") rfl z_bool b_bool rfl) pa_nil)))))))), (so_ret (eo_and (eo_isi (by simp) eo_var) (eo_not (eo_isi (by simp) eo_var))))⟩
theorem ok_checked_bookR (F : Fun K "checked_book" "checked_book" (top 20) f fd) {C_NoBook B_NoBook fI_NoBook : Addr} {fdI_NoBook : FuncData} {oI_NoBook : Obj} (hC_NoBook : L9.XC K C_NoBook B_NoBook fI_NoBook) (lI_NoBook : K.lookup fI_NoBook = some oI_NoBook) (iI_NoBook : PySem.W.isFn K (.ref fI_NoBook) = true) (FI_NoBook : FnOk P w K mg base CX0 1 fI_NoBook fdI_NoBook ["self", "place"] (L9.spInitX C_NoBook "place")) (bI_NoBook : Binds K fdI_NoBook ["self", "place"] []) (hn_NoBook : PySem.W.nsIn K mainGlobals "NoBook" = some (some (.ref C_NoBook))) (hm_NoBook : mg "NoBook" = some (.ref C_NoBook)) (c_is_word : CalP P w K mg base 2 "is_word" ["text"] 1 F_is_word) (c_are_strokes : CalP P w K mg base 3 "are_strokes" ["strokes"] 1 F_are_strokes) (z_len : mg "len" = none) (z_enumerate : mg "enumerate" = none) {t_MOST_WORDS : Tok} (m_MOST_WORDS : mg "MOST_WORDS" = some (.int 20 t_MOST_WORDS)) : FnOk P w K mg base (L4.CXe P w) 4 f fd ["book"] (spP K 1 F_checked_bookR) := by
  refine L4.okE (k := 3) (n := 1) (m := 4) (g := g_checked_bookR) (FF := F_checked_bookR) F sc_checked_book rfl rfl rfl (fun cdv A outer s H E hr => ?_)
  have hu := hr.units
  have hv : (A.deeper (PyProof.Rows.envOfC "checked_book" (defScope (top 20)) s.heap.objs.size f cdv)).units + 65 < cLine := by have := hr.un; omega
  exact ⟨_, (pss_cons (ps_if (pt_not (pt_chain op_le op_le pe_int (pe_callB call_len rfl z_len b_len (pa_cons (pv 0) pa_nil)) (pe_glob (v := .int 20) rfl m_MOST_WORDS ⟨_, rfl⟩))) (pss_one (L9.ps_raiseI hC_NoBook lI_NoBook iI_NoBook FI_NoBook bI_NoBook (hr.mono (by decide)) rfl hm_NoBook (pa_cons pe_non pa_nil))) pss_nil)
      (pss_cons (ps_for PassesOwn.leaving rfl (pi_enumA rfl z_enumerate (pa_cons (pv 0) pa_nil)) (pg_tup rfl (pgs_cons (pg_name (i := 1) sc_checked_book.nd rfl (Or.inl rfl)) (pgs_cons (pg_name (i := 2) sc_checked_book.nd rfl (Or.inl rfl)) pgs_nil))) (pss_cons (ps_set (i := 3) sc_checked_book.nd rfl (Or.inl rfl) (pe_cmpR (op_inD hv) (pe_ix ix_seq (pv 2) pe_int (fun _ _ => rfl)) (pe_comp ["other"] [] rfl (pi_seq (pe_slice sl_anyB (pv 0) po_none (po_some (pv 1)))) (fun _ _ _ _ => (pg_name (i := 0) (show List.Nodup (["other"] : List Str) by decide +kernel) rfl (Or.inl rfl))) (fun _ _ _ _ => pifs_nil) (fun _ _ _ _ => (pe_ix ix_seq (pv 0) pe_int (fun _ _ => rfl))) trivial rfl) (by with_unfolding_all rfl)))
      (pss_one (ps_if (PW.pt (pw_or (pt_val (pv 3)) (pw_or (pt_not (pt_val (pe_cal c_is_word hr (pa_cons (pe_ix ix_seq (pv 2) pe_int (fun _ _ => rfl)) pa_nil)))) (pw_or1 (pt_not (pt_val (pe_cal c_are_strokes hr (pa_cons (pe_ix ix_seq (pv 2) pe_int (fun _ _ => rfl)) pa_nil)))))))) (pss_one (L9.ps_raiseI hC_NoBook lI_NoBook iI_NoBook FI_NoBook bI_NoBook (hr.mono (by decide)) rfl hm_NoBook (pa_cons (pv 1) pa_nil))) pss_nil))))
      (pss_one (ps_ret (pv 0))))), (so_seq (so_if (tto_not (tto_test (eo_chain opp_le opp_le eo_int (eo_cb cb_len (ao_cons eo_var ao_nil)) eo_int))) (L9.so_raiseF hn_NoBook eo_non) so_next)
      (so_seq (so_for (io_enum (ao_cons eo_var ao_nil)) (go_tup (gs_cons go_name (gs_cons go_name gs_nil))) (so_seq (so_asg (eo_op opp_in (eo_op opp_ix eo_var eo_int) (eo_comp rfl rfl (io_seq (eo_sl slp_B eo_var too_none (too_some eo_var))) go_name tto_true (eo_op opp_ix eo_var eo_int))) go_name)
      (so_if (tto_or (tto_b eo_var) (tto_or (tto_not (tto_b (eo_cal (ao_cons (eo_op opp_ix eo_var eo_int) ao_nil)))) (tto_not (tto_b (eo_cal (ao_cons (eo_op opp_ix eo_var eo_int) ao_nil)))))) (L9.so_raiseF hn_NoBook eo_var) so_next)))
      (so_ret eo_var)))⟩
end
end K61
namespace L2
open PySem PySem.Spec PyProof.Rows
section
variable {σ : St} {H : Hp} {Q : VK} {D : Ends}
theorem rd_sfld {K : PySem.W.Frag} {ta tv : TE} {f : Str} (h : tv σ H fun y H1 => ta σ H1 fun x H2 => ∃ a C dx fs, x = .ref a ∧ H2 a = some (.ins C dx fs) ∧ Cls K C ∧ NoAttr K C f ∧ fs.length < 1000 ∧ D.nx σ (upd H2 a (.ins C dx (putF f y fs)))) : sFld K ta tv f D σ H := h
theorem rd_tif {c : TT} {t u : TE} (h : c σ H fun b H1 => if b = true then t σ H1 Q else u σ H1 Q) : tIf c t u σ H Q := h
theorem rd_fld {K : PySem.W.Frag} {ta : TE} {f : Str} (h : ta σ H fun x H1 => ∃ a C dx fs v, x = .ref a ∧ H1 a = some (.ins C dx fs) ∧ Cls K C ∧ NoAttr K C f ∧ fs.lookup f = some v ∧ Q v H1) : tFld K ta f σ H Q := h
theorem rd_meth {C : Addr} {m : Str} {sp : Sp} {E : XK} {ta : TE} {t : TA} (h : ta σ H fun x H1 => ∃ a dx fs, x = .ref a ∧ H1 a = some (.ins C dx fs) ∧ fs.lookup m = none ∧ t σ H1 fun vs H2 => sp (x :: (vs ++ [])) H2 Q E) : tMeth C m sp [] E ta t σ H Q := h
theorem rd_make {C : Addr} {sp : Sp} {E : XK} {t : TA} (h : t σ H fun vs H1 => ∀ x dx, H1 x = none → H1 dx = none → dx ≠ x → sp (.ref x :: (vs ++ [])) (upd (upd H1 dx (.own x)) x (.ins C dx [])) (fun v H2 => v = .non ∧ Q (.ref x) H2) E) : tMake C sp [] E t σ H Q := h
end
end L2
local macro_rules | `(tactic| walk_at "gh") => `(tactic| repeat (first
  | with_reducible refine L2.rd_seq ?_
  | with_reducible refine L2.rd_asg ?_
  | with_reducible refine L2.rd_sfld ?_
  | with_reducible refine L2.rd_tif ?_
  | with_reducible refine L2.rd_fld ?_
  | with_reducible refine L2.rd_meth ?_
  | with_reducible refine L2.rd_make ?_
  | with_reducible refine L2.rd_name ?_
  | ((with_reducible show L2.tVar _ _ _ _); refine ⟨_, rfl, ?_⟩)
  | with_reducible refine L2.rd_c ?_
  | with_reducible refine L2.rd_op ?_
  | with_reducible refine L2.rd_un ?_
  | with_reducible refine L2.rd_i0 ?_
  | with_reducible refine L2.rd_u ?_
  | ((with_reducible refine L2.rd_i ?_ ?_); first | exact ⟨by decide, by decide⟩ | exact ⟨by decide, by decide, by decide⟩ | exact (show (0 : Int) < _ by decide) | exact ⟨by decide, by decide +kernel⟩)
  | ((with_reducible refine L2.rd_eq ?_ ?_); exact rfl)
  | ((with_reducible refine L2.rd_ne ?_ ?_); exact rfl)
  | with_reducible refine L2.rd_ret ?_
  | with_reducible refine L2.rd_drop ?_
  | with_reducible refine L2.rd_ifs ?_
  | with_reducible refine L2.rd_next ?_
  | with_reducible refine L2.rd_break ?_
  | with_reducible refine L2.rd_cont ?_
  | with_reducible refine L2.rd_test ?_
  | with_reducible refine L2.rd_b ?_
  | with_reducible refine L2.rd_bl ?_
  | with_reducible refine L2.rd_and ?_
  | with_reducible refine L2.rd_or ?_
  | with_reducible refine L2.rd_not ?_
  | with_reducible refine L2.rd_andV ?_
  | with_reducible refine L2.rd_orV ?_
  | with_reducible refine L2.rd_notV ?_
  | with_reducible refine L2.rd_nil ?_
  | with_reducible refine L2.rd_cons ?_
  | with_reducible refine L2.rd_cb ?_
  | with_reducible refine L2.rd_call ?_
  | with_reducible refine L2.rd_tup ?_
  | with_reducible refine L2.rd_lst ?_
  | with_reducible refine L2.rd_bm ?_
  | with_reducible refine L2.rd_sl ?_
  | with_reducible refine L2.rd_nopart ?_
  | with_reducible refine L2.rd_part ?_
  | with_reducible refine L2.rd_int ?_
  | with_reducible refine L2.rd_chain ?_
  | with_reducible refine L2.rd_gcons ?_
  | with_reducible refine L2.rd_gnil ?_
  | with_reducible refine L2.rd_gsub ?_
  | with_reducible refine L2.rd_for ?_
  | with_reducible refine L2.rd_rng1 ?_
  | with_reducible refine L2.rd_rng2 ?_
  | with_reducible refine L2.rd_ilist ?_
  | with_reducible refine L2.rd_itup ?_
  | with_reducible refine L2.rd_ienum ?_
  | with_reducible refine L2.rd_comp ?_
  | with_reducible refine L2.rd_true ?_))
namespace K61
open PySem L2
theorem small {n : Nat} (h : n ≤ 10000) : n < sizeLine := Nat.lt_of_le_of_lt h (by decide +kernel)
theorem smallE {n : Nat} (h : n ≤ 10000) : n ≤ sizeLine := Nat.le_of_lt (small h)
section
variable {P : Program} {w : World} {K : PySem.W.Frag} {mg : Str → Option Value} {base : Heap} {f : Addr} {fd : FuncData}
noncomputable def Cgt (CR : Addr) (H : Hp) (e : Addr) : Prop := ∃ ob, H e = some (.frz ob (.own e)) ∧ ob.cls = .ref CR ∧ (∀ p, ob.dict = some p → ∃ fs, H p = some (.xd fs)) ∧ PySem.W.notCls ob = true
theorem Cgt.same {CR : Addr} {H H' : Hp} {e : Addr} (h : Cgt CR H e) (s : Same H H') : Cgt CR H' e := by
  obtain ⟨ob, h1, h2, h3, h4⟩ := h
  exact ⟨ob, s _ _ h1, h2, fun p hp => let ⟨fs, z⟩ := h3 p hp; ⟨fs, s _ _ z⟩, h4⟩
theorem isx_false {K : PySem.W.Frag} {CR C : Addr} {m : List Value} {H : Hp} {e : Addr} {b : Bool} {Q : VK} (h : Cgt CR H e) (L : L4.ExLook K CR m) (k : PySem.W.kitOne K (.ref CR) (.ref C) = some b) (q : Q (.bl b) H) : L4.rIsXL K [.ref e, .ref C] H Q := by
  obtain ⟨ob, h1, h2, h3, h4⟩ := h
  exact ⟨_, .inl ⟨C, rfl, e, ob, CR, m, b, rfl, h1, h2, h3, h4, L, k, q⟩⟩
theorem isx_ty {K : PySem.W.Frag} {CR : Addr} {n : String} {m : List Value} {H : Hp} {e : Addr} {b : Bool} {Q : VK} (h : Cgt CR H e) (L : L4.ExLook K CR m) (k : PySem.W.kitOne K (.ref CR) (.type n) = some b) (q : Q (.bl b) H) : L4.rIsXL K [.ref e, .ty n] H Q := by
  obtain ⟨ob, h1, h2, h3, h4⟩ := h
  exact ⟨_, .inr ⟨n, rfl, e, ob, CR, m, b, rfl, h1, h2, h3, h4, L, k, q⟩⟩
theorem kit_self {K : PySem.W.Frag} (C : Addr) : PySem.W.kitOne K (.ref C) (.ref C) = some true := by
  unfold PySem.W.kitOne
  rw [if_pos (beq_iff_eq.mpr rfl)]
theorem kit_of {K : PySem.W.Frag} {CR C : Addr} (hs : PySem.W.subIn K (.ref CR) (.ref CR) = some true) (h1 : PySem.W.isClsIn K C = true) (h2 : PySem.W.typeIn K (.ref C) = some (.type "type")) (h3 : PySem.W.subIn K (.ref CR) (.ref C) = some false) : PySem.W.kitOne K (.ref CR) (.ref C) = some false := by
  have ne : (Value.ref CR == Value.ref C) = false := by
    cases e : (Value.ref CR == Value.ref C) with
    | false => rfl
    | true =>
      obtain rfl := Value.ref.inj (beq_iff_eq.mp e)
      rw [hs] at h3
      cases h3
  unfold PySem.W.kitOne
  rw [ne, if_neg Bool.false_ne_true]
  show (if ((PySem.W.clsIn K C).isSome && PySem.W.typeIn K (.ref C) == some (.type "type")) = true then PySem.W.subIn K (.ref CR) (.ref C) else none) = _
  rw [show (PySem.W.clsIn K C).isSome = true from h1, h2, if_pos (by rw [Bool.true_and]; exact beq_iff_eq.mpr rfl)]
  exact h3
theorem kit_ve {K : PySem.W.Frag} {CR : Addr} (h : PySem.W.subIn K (.ref CR) (.type "ValueError") = some true) : PySem.W.kitOne K (.ref CR) (.type "ValueError") = some true := by
  unfold PySem.W.kitOne
  rw [if_neg (by intro z; cases beq_iff_eq.mp z)]
  show (if PySem.W.kitMeta "ValueError" = true then PySem.W.subIn K (.ref CR) (.type "ValueError") else none) = _
  rw [if_pos (by decide +kernel)]
  exact h
noncomputable def spKindJ (C : Addr) (j : Nat) : Sp := fun vs H Q _ => ∃ e, vs = [.ref e] ∧ Cgt C H e ∧ ∀ H', Same H H' → Q (.int (j : Int)) H'
theorem sc__law_kind : FnScope ["_law_e", "_law_found"] ["_law_e"] (defScope (top 30)) := ⟨rfl, rfl, rfl, by decide +kernel, rfl, by decide +kernel, by decide +kernel⟩
theorem cntJ : ∀ j, j < 10 → ([decide (j = 0), decide (j = 1), decide (j = 2), decide (j = 3), decide (j = 4), decide (j = 5), decide (j = 6), decide (j = 7), decide (j = 8), decide (j = 9)] : List Bool).count true = 1 := by decide
theorem idxJ : ∀ j, j < 10 → ([decide (j = 0), decide (j = 1), decide (j = 2), decide (j = 3), decide (j = 4), decide (j = 5), decide (j = 6), decide (j = 7), decide (j = 8), decide (j = 9)] : List Bool)[j]? = some true := by decide
theorem befJ : ∀ j, j < 10 → ∀ m, m < j → ([decide (j = 0), decide (j = 1), decide (j = 2), decide (j = 3), decide (j = 4), decide (j = 5), decide (j = 6), decide (j = 7), decide (j = 8), decide (j = 9)] : List Bool)[m]? ≠ some true := by decide
theorem ok_kind {C C_NoBed C_NoChord C_NoText C_NoBook C_NoWord C_NoFrame C_NoReading C_TooMany C_NoKeys C_NoRow : Addr} {mR : List Value} {j : Nat} (hj : j < 10) (F : Fun K "_law_kind" "_law_kind" (top 30) f fd) (L : L4.ExLook K C mR) (m_NoBed : mg "NoBed" = some (.ref C_NoBed)) (m_NoChord : mg "NoChord" = some (.ref C_NoChord)) (m_NoText : mg "NoText" = some (.ref C_NoText)) (m_NoBook : mg "NoBook" = some (.ref C_NoBook)) (m_NoWord : mg "NoWord" = some (.ref C_NoWord)) (m_NoFrame : mg "NoFrame" = some (.ref C_NoFrame)) (m_NoReading : mg "NoReading" = some (.ref C_NoReading)) (m_TooMany : mg "TooMany" = some (.ref C_TooMany)) (m_NoKeys : mg "NoKeys" = some (.ref C_NoKeys)) (m_NoRow : mg "NoRow" = some (.ref C_NoRow)) (k_NoBed : PySem.W.kitOne K (.ref C) (.ref C_NoBed) = some (decide (j = 0))) (k_NoChord : PySem.W.kitOne K (.ref C) (.ref C_NoChord) = some (decide (j = 1))) (k_NoText : PySem.W.kitOne K (.ref C) (.ref C_NoText) = some (decide (j = 2))) (k_NoBook : PySem.W.kitOne K (.ref C) (.ref C_NoBook) = some (decide (j = 3))) (k_NoWord : PySem.W.kitOne K (.ref C) (.ref C_NoWord) = some (decide (j = 4))) (k_NoFrame : PySem.W.kitOne K (.ref C) (.ref C_NoFrame) = some (decide (j = 5))) (k_NoReading : PySem.W.kitOne K (.ref C) (.ref C_NoReading) = some (decide (j = 6))) (k_TooMany : PySem.W.kitOne K (.ref C) (.ref C_TooMany) = some (decide (j = 7))) (k_NoKeys : PySem.W.kitOne K (.ref C) (.ref C_NoKeys) = some (decide (j = 8))) (k_NoRow : PySem.W.kitOne K (.ref C) (.ref C_NoRow) = some (decide (j = 9))) (kV : PySem.W.kitOne K (.ref C) (.type "ValueError") = some true) (z_isinstance : mg "isinstance" = none) (z_ValueError : mg "ValueError" = none) :
    FnOk P w K mg base CX0 1 f fd ["_law_e"] (spKindJ C j) := by
  refine F.ok sc__law_kind (fun vs H Q E h => ?_) (fun cdv A outer s H vs Q E hr h => ?_)
  · obtain ⟨_, rfl, _⟩ := h
    rfl
  obtain ⟨e, rfl, hc, q⟩ := h
  refine ⟨_, (pss_cons (ps_set (i := 1) sc__law_kind.nd rfl (Or.inl rfl) (pe_lst (pa_cons (pe_callB L4.call_isX rfl z_isinstance b_isinstance (pa_cons (pv 0) (pa_cons (pe_glob (v := .ref C_NoBed) rfl m_NoBed rfl) pa_nil))) (pa_cons (pe_callB L4.call_isX rfl z_isinstance b_isinstance (pa_cons (pv 0) (pa_cons (pe_glob (v := .ref C_NoChord) rfl m_NoChord rfl) pa_nil))) (pa_cons (pe_callB L4.call_isX rfl z_isinstance b_isinstance (pa_cons (pv 0) (pa_cons (pe_glob (v := .ref C_NoText) rfl m_NoText rfl) pa_nil))) (pa_cons (pe_callB L4.call_isX rfl z_isinstance b_isinstance (pa_cons (pv 0) (pa_cons (pe_glob (v := .ref C_NoBook) rfl m_NoBook rfl) pa_nil))) pa_nil))))))
      (pss_cons (ps_set (i := 1) sc__law_kind.nd rfl (Or.inl rfl) (pe_op L3.op_catX (pv 1) (pe_lst (pa_cons (pe_callB L4.call_isX rfl z_isinstance b_isinstance (pa_cons (pv 0) (pa_cons (pe_glob (v := .ref C_NoWord) rfl m_NoWord rfl) pa_nil))) (pa_cons (pe_callB L4.call_isX rfl z_isinstance b_isinstance (pa_cons (pv 0) (pa_cons (pe_glob (v := .ref C_NoFrame) rfl m_NoFrame rfl) pa_nil))) (pa_cons (pe_callB L4.call_isX rfl z_isinstance b_isinstance (pa_cons (pv 0) (pa_cons (pe_glob (v := .ref C_NoReading) rfl m_NoReading rfl) pa_nil))) pa_nil))))))
      (pss_cons (ps_set (i := 1) sc__law_kind.nd rfl (Or.inl rfl) (pe_op L3.op_catX (pv 1) (pe_lst (pa_cons (pe_callB L4.call_isX rfl z_isinstance b_isinstance (pa_cons (pv 0) (pa_cons (pe_glob (v := .ref C_TooMany) rfl m_TooMany rfl) pa_nil))) (pa_cons (pe_callB L4.call_isX rfl z_isinstance b_isinstance (pa_cons (pv 0) (pa_cons (pe_glob (v := .ref C_NoKeys) rfl m_NoKeys rfl) pa_nil))) (pa_cons (pe_callB L4.call_isX rfl z_isinstance b_isinstance (pa_cons (pv 0) (pa_cons (pe_glob (v := .ref C_NoRow) rfl m_NoRow rfl) pa_nil))) pa_nil))))))
      (pss_cons (ps_if (PW.pt (pw_or (pt_not (pt_val (pe_callB L4.call_isX rfl z_isinstance b_isinstance (pa_cons (pv 0) (pa_cons (pe_bltn (v := .ty "ValueError") rfl z_ValueError (show bootBuiltins "ValueError" = some (.type "ValueError") from rfl) rfl) pa_nil))))) (pw_or1 (pt_cmpR op_ne (pe_bm PySem.F.plainAttrs_list PySem.F.slot_list_count PySem.F.type_list_count L4.mt_countB (pv 1) (pa_cons pe_bl pa_nil)) pe_int (nomark _))))) (pss_one (ps_ret (pe_un un_neg pe_int))) pss_nil)
      (pss_one (ps_ret (pe_bm PySem.F.plainAttrs_list PySem.F.slot_list_index PySem.F.type_list_index L4.mt_indexB (pv 1) (pa_cons pe_bl pa_nil)))))))), ?_⟩
  walk_at "gh"
  refine isx_false hc L k_NoBed ?_
  walk_at "gh"
  refine isx_false hc L k_NoChord ?_
  walk_at "gh"
  refine isx_false hc L k_NoText ?_
  walk_at "gh"
  refine isx_false hc L k_NoBook ?_
  walk_at "gh"
  refine ⟨smallE (Nat.le_of_ble_eq_true rfl), fun p hp => ?_⟩
  have s1 : Same H (upd H p (.lst [.bl (decide (j = 0)), .bl (decide (j = 1)), .bl (decide (j = 2)), .bl (decide (j = 3))])) := same_upd hp _
  have hc1 := hc.same s1
  walk_at "gh"
  refine isx_false hc1 L k_NoWord ?_
  walk_at "gh"
  refine isx_false hc1 L k_NoFrame ?_
  walk_at "gh"
  refine isx_false hc1 L k_NoReading ?_
  walk_at "gh"
  refine ⟨smallE (Nat.le_of_ble_eq_true rfl), fun p2 hp2 => ?_⟩
  have n2 : p ≠ p2 := fun z => by rw [← z, upd_same] at hp2; cases hp2
  refine ⟨p, p2, [.bl (decide (j = 0)), .bl (decide (j = 1)), .bl (decide (j = 2)), .bl (decide (j = 3))], [.bl (decide (j = 4)), .bl (decide (j = 5)), .bl (decide (j = 6))], rfl, rfl, .inl (Rd.of ((upd_ne n2).trans upd_same)), .inl (Rd.of upd_same), smallE (Nat.le_of_ble_eq_true rfl), fun p3 hp3 => ?_⟩
  have s2 := s1.trans (same_upd hp2 (.lst [.bl (decide (j = 4)), .bl (decide (j = 5)), .bl (decide (j = 6))]))
  have s3 := s2.trans (same_upd hp3 (.lst ([.bl (decide (j = 0)), .bl (decide (j = 1)), .bl (decide (j = 2)), .bl (decide (j = 3))] ++ [.bl (decide (j = 4)), .bl (decide (j = 5)), .bl (decide (j = 6))])))
  have hc3 := hc.same s3
  walk_at "gh"
  have e3 : (upd (upd (upd H p (.lst [.bl (decide (j = 0)), .bl (decide (j = 1)), .bl (decide (j = 2)), .bl (decide (j = 3))])) p2 (.lst [.bl (decide (j = 4)), .bl (decide (j = 5)), .bl (decide (j = 6))])) p3 (.lst ([.bl (decide (j = 0)), .bl (decide (j = 1)), .bl (decide (j = 2)), .bl (decide (j = 3))] ++ [.bl (decide (j = 4)), .bl (decide (j = 5)), .bl (decide (j = 6))]))) p3 = some (.lst ([.bl (decide (j = 0)), .bl (decide (j = 1)), .bl (decide (j = 2)), .bl (decide (j = 3))] ++ [.bl (decide (j = 4)), .bl (decide (j = 5)), .bl (decide (j = 6))])) := upd_same
  generalize upd (upd (upd H p (.lst [.bl (decide (j = 0)), .bl (decide (j = 1)), .bl (decide (j = 2)), .bl (decide (j = 3))])) p2 (.lst [.bl (decide (j = 4)), .bl (decide (j = 5)), .bl (decide (j = 6))])) p3 (.lst ([.bl (decide (j = 0)), .bl (decide (j = 1)), .bl (decide (j = 2)), .bl (decide (j = 3))] ++ [.bl (decide (j = 4)), .bl (decide (j = 5)), .bl (decide (j = 6))])) = H3 at s3 hc3 e3
  refine isx_false hc3 L k_TooMany ?_
  walk_at "gh"
  refine isx_false hc3 L k_NoKeys ?_
  walk_at "gh"
  refine isx_false hc3 L k_NoRow ?_
  walk_at "gh"
  refine ⟨smallE (Nat.le_of_ble_eq_true rfl), fun p4 hp4 => ?_⟩
  have n4 : p3 ≠ p4 := fun z => by rw [← z, e3] at hp4; cases hp4
  refine ⟨p3, p4, _, [.bl (decide (j = 7)), .bl (decide (j = 8)), .bl (decide (j = 9))], rfl, rfl, .inl (Rd.of ((upd_ne n4).trans e3)), .inl (Rd.of upd_same), smallE (show 10 ≤ 10000 by decide), fun p5 hp5 => ?_⟩
  have s5 := (s3.trans (same_upd hp4 (.lst [.bl (decide (j = 7)), .bl (decide (j = 8)), .bl (decide (j = 9))]))).trans (same_upd hp5 (.lst (([.bl (decide (j = 0)), .bl (decide (j = 1)), .bl (decide (j = 2)), .bl (decide (j = 3))] ++ [.bl (decide (j = 4)), .bl (decide (j = 5)), .bl (decide (j = 6))]) ++ [.bl (decide (j = 7)), .bl (decide (j = 8)), .bl (decide (j = 9))])))
  have e5 : (upd (upd H3 p4 (.lst [.bl (decide (j = 7)), .bl (decide (j = 8)), .bl (decide (j = 9))])) p5 (.lst (([.bl (decide (j = 0)), .bl (decide (j = 1)), .bl (decide (j = 2)), .bl (decide (j = 3))] ++ [.bl (decide (j = 4)), .bl (decide (j = 5)), .bl (decide (j = 6))]) ++ [.bl (decide (j = 7)), .bl (decide (j = 8)), .bl (decide (j = 9))]))) p5 = some (.lst (([.bl (decide (j = 0)), .bl (decide (j = 1)), .bl (decide (j = 2)), .bl (decide (j = 3))] ++ [.bl (decide (j = 4)), .bl (decide (j = 5)), .bl (decide (j = 6))]) ++ [.bl (decide (j = 7)), .bl (decide (j = 8)), .bl (decide (j = 9))])) := upd_same
  generalize upd (upd H3 p4 (.lst [.bl (decide (j = 7)), .bl (decide (j = 8)), .bl (decide (j = 9))])) p5 (.lst (([.bl (decide (j = 0)), .bl (decide (j = 1)), .bl (decide (j = 2)), .bl (decide (j = 3))] ++ [.bl (decide (j = 4)), .bl (decide (j = 5)), .bl (decide (j = 6))]) ++ [.bl (decide (j = 7)), .bl (decide (j = 8)), .bl (decide (j = 9))])) = H5 at s5 e5
  have hc5 := hc.same s5
  walk_at "gh"
  refine isx_ty hc5 L kV ?_
  walk_at "gh"
  rw [if_neg (by decide)]
  walk_at "gh"
  refine ⟨.inl ⟨rfl, _, SqL.of e5⟩, ?_⟩
  walk_at "gh"
  refine ⟨p5, [decide (j = 0), decide (j = 1), decide (j = 2), decide (j = 3), decide (j = 4), decide (j = 5), decide (j = 6), decide (j = 7), decide (j = 8), decide (j = 9)], true, rfl, e5, rfl, ?_⟩
  rw [cntJ j hj]
  walk_at "gh"
  rw [if_neg (by decide)]
  walk_at "gh"
  refine ⟨.inl ⟨rfl, _, SqL.of e5⟩, ?_⟩
  walk_at "gh"
  exact ⟨p5, [decide (j = 0), decide (j = 1), decide (j = 2), decide (j = 3), decide (j = 4), decide (j = 5), decide (j = 6), decide (j = 7), decide (j = 8), decide (j = 9)], true, j, rfl, e5, rfl, idxJ j hj, befJ j hj, by omega, q _ s5⟩
end
end K61
namespace K61
open PySem L2
section
open L3 L4
variable {P : Program} {w : World} {K : PySem.W.Frag} {mg : Str → Option Value} {base : Heap} {f : Addr} {fd : FuncData}
theorem sc_NoBook___init__ : FnScope ["self", "place"] ["self", "place"] (defScope (inClass (top 9) 0)) := ⟨rfl, rfl, rfl, by decide +kernel, rfl, by decide +kernel, by decide +kernel⟩
theorem ok_initNB {C B fI : Addr} (F : Fun K "__init__" "NoBook.__init__" (inClass (top 9) 0) f fd) (hC : L9.XC K C B fI) (hmB : mg "BedError" = some (.ref B)) (hrd : PySem.W.readsIn K B (.type "type") = true) (hfc : PySem.W.findCls K (.ref B) (.type "type") "__init__" = some (.val (.builtin "ValueError.__init__")))
    (hsp : PySem.W.specialIn K (.ref B) "__getattribute__" = some (some (.builtin "type.__getattribute__"))) (hp : PySem.W.findIn K (.ref C) "place" = some none) : FnOk P w K mg base CX0 1 f fd ["self", "place"] (L9.spInitX C "place") := by
  refine F.ok sc_NoBook___init__ (fun vs H Q E h => ?_) (fun cdv A outer s H vs Q E hr h => ?_)
  · obtain ⟨_, _, rfl, _⟩ := h
    rfl
  obtain ⟨e, v, rfl, fv, hE, q⟩ := h
  refine ⟨_, (pss_cons (ps_expr (L9.pe_binit rfl hmB hrd hfc hsp hC (pa_cons (pv 0) (pa_cons (L9.pe_fstr (L9.pj_lit (by decide) (L9.pj_fmt (pv 1) L9.pj_nil)) (by decide)) pa_nil)))) (pss_one (L9.ps_setX hC hp (pv 0) (pv 1) rfl))), ?_⟩
  walk_at "gh"
  refine ⟨V.ref e, rfl, v, rfl, fv, fun y => ⟨e, y, rfl, hE, ?_⟩⟩
  exact ⟨v, rfl, V.ref e, rfl, e, rfl, hE, fun p hp hpe => q p hp hpe⟩
end
end K61
namespace K61
open PySem L2
section
variable {P : Program} {w : World} {K : PySem.W.Frag} {mg : Str → Option Value} {base : Heap} {f : Addr} {fd : FuncData}
theorem pe_calEK {X : Cx} {K : PySem.W.Frag} {P : Program} {w : World} {mg : Str → Option Value} {base : Heap} {k j n : Nat} {x : Str} {ps : List Str} {F : L3.FN} {E : XK} {e : Expr} {es : List Expr} {t : TA} {p pos : Pos} (C : L4.CalE P w K mg base k x ps n F) (hP : X.prog = P) (hw : X.w = w) (hK : X.K = K) (hm : X.mg = mg) (hb : X.base = base) (hx : Passes (L4.CXe X.prog X.w) X E) (hr : Room j X.A) (ha : PA X (e :: es) t) (hjk : k ≤ j := by decide) (hg : Gl X x := by rfl)
    (hdb : (x == ("__debug__" : Str)) = false := by decide) (he : starEach (e :: es) X.env = (false, eval e X.env) :: starEach es X.env := by rfl) (hpl : (backTo pos (starEach es X.env)).any (·.1) = false := by rfl) :
    PE X (.Call (.Name x p) (e :: es) [] pos) (tCall (L3.spP K n F) [] E t) := by
  subst hP hw hK hm hb
  exact L4.pe_calE C hx hr ha hjk hg hdb he hpl
theorem whole_int (i : Int) : F__law_whole [.int i] = .ok (.fz (.bool true)) := by
  unfold F__law_whole g__law_whole
  exact L3.run_of (ρ := [some (.fz (.int i))]) rfl (by rfl)
theorem sc__law_told : FnScope ["_law_book_here", "_law_caught", "_law_found", "_law_e"] ["_law_book_here"] (defScope (top 40)) := ⟨rfl, rfl, rfl, by decide +kernel, rfl, by decide +kernel, by decide +kernel⟩
theorem ok_told {C CB : Addr} {m mB : List Value} (F : Fun K "_law_told" "_law_told" (top 40) f fd) (c__law_kind : CalOk P w K mg base 1 "_law_kind" ["_law_e"] (spKindJ C 3)) (c__law_whole : L3.CalP P w K mg base 1 "_law_whole" ["_law_thing"] 1 F__law_whole)
    (c_book : L4.CalE P w K mg base 4 "checked_book" ["book"] 1 F_checked_bookR)
    (hB : mg "BedError" = some (.ref CB)) (xB : L4.ExCls K CB mB) (bB : mB.contains (.type "BaseException") = true)
    (xR : L4.ExCls K C m) (up : (Value.ref C :: m).contains (.ref CB) = true) (nR : PySem.W.nsIn K mainGlobals "NoBook" = some (some (.ref C))) (L : L4.ExLook K C m) (hh : PySem.W.hasDictIn K C = true) (hp : PySem.W.findIn K (.ref C) "place" = some none)
    (z_isinstance : mg "isinstance" = none) (z_tuple : mg "tuple" = none) :
    FnOk P w K mg base CX0 5 f fd ["_law_book_here"] (L3.spP K 1 F__law_told) := by
  refine F.ok sc__law_told (fun vs H Q E h => h.1) (fun cdv A outer s H vs Q E hr h => ?_)
  have hu := hr.units
  obtain ⟨hl, O, ds, hO, dv, wr⟩ := h
  obtain ⟨b, rfl⟩ : ∃ b, ds = [b] := by
    have := dv.length
    match ds, this.symm.trans hl with
    | [b], _ => exact ⟨b, rfl⟩
  obtain ⟨v0, rfl, d0⟩ : ∃ v0, vs = [v0] ∧ L3.DV O K H v0 b := by
    cases dv with
    | cons d0 r0 =>
      cases r0
      exact ⟨_, rfl, d0⟩
  cases h1 : F_checked_bookR [b] with
  | bad => unfold F__law_told at wr; dsimp only at wr; rw [h1] at wr; exact wr.elim
  | ok rv =>
    cases rv with
    | ow es => unfold F__law_told at wr; dsimp only at wr; rw [h1] at wr; exact wr.elim
    | fz d =>
      cases d with
      | tuple es =>
        have he : L3.eqD (.tuple es) b = some (.fz (.bool true)) := by
          unfold F__law_told at wr
          dsimp only at wr
          rw [h1] at wr
          dsimp only at wr
          split at wr
          · assumption
          · exact wr.elim
        have q : ∀ v H', Same H H' → L3.DV O K H' v .none → Q v H' := by
          have e : F__law_told [b] = .ok (.fz .none) := by
            unfold F__law_told
            dsimp only
            rw [h1]
            dsimp only
            rw [he]
          rw [e] at wr
          exact wr
        refine ⟨_, (pss_cons (ps_set (i := 1) sc__law_told.nd rfl (Or.inl rfl) pe_non)
          (pss_cons (ps_set (i := 2) sc__law_told.nd rfl (Or.inl rfl) pe_non)
          (pss_cons (L4.ps_try (i := 3) (E2 := fun _ _ _ => False) rfl sc__law_told.nd rfl rfl rfl hB xB bB rfl rfl
            (fun l => pss_one (ps_set (i := 2) sc__law_told.nd rfl (Or.inl rfl) (pe_calEK c_book rfl rfl rfl rfl rfl (L4.passes_try rfl) hr (pa_cons (pv 0) pa_nil))))
            (fun l e => pss_one (ps_set (i := 1) sc__law_told.nd rfl (Or.inl rfl) (pv 3)))
            (fun c dx H1 h => h.elim))
          (pss_cons (ps_if (PW.pt (pw_and (pt_cmpR op_isN (pv 1) pe_non (nomark _)) (pw_and (pt_val (pe_callB L3.call_isiA rfl z_isinstance b_isinstance (pa_cons (pv 2) (pa_cons (pe_bltn (v := .ty "tuple") rfl z_tuple b_tuple rfl) pa_nil)))) (pw_and1 (pt_cmpR (op_eqD hu) (pv 2) (pv 0) (nomark _)))))) (pss_one (ps_ret pe_non)) pss_nil)
          (pss_cons ps_never (pss_one ps_never)))))), ?_⟩
        walk_at "gh"
        unfold L4.tTry
        refine ⟨?_, fun c dx H1 h2 => h2.elim⟩
        walk_at "gh"
        refine ⟨rfl, O, [b], hO, .cons d0 .nil, ?_⟩
        rw [h1]
        intro v H' s' dvv
        cases dvv with
        | tup hsq hds =>
          have away : ∀ t, H' t = none → ¬ O t := fun t ht z => hO t z (by
            cases y : H t with
            | none => rfl
            | some o => rw [s' _ _ y] at ht; cases ht)
          walk_at "gh"
          refine ⟨rfl, true, ?_, ?_⟩
          · show V.bl (decide (V.non = V.non)) = V.bl true
            rw [decide_eq_true rfl]
          rw [if_pos rfl]
          walk_at "gh"
          refine ⟨_, "tuple", "tuple", true, rfl, .inr ⟨rfl, _, hsq.1⟩, by unfold PySem.W.kitOne; rw [if_pos (beq_iff_eq.mpr rfl)], ?_⟩
          walk_at "gh"
          rw [if_pos rfl]
          walk_at "gh"
          refine L3.opp_eq O H' _ _ (.tuple es) b (.fz (.bool true)) _ away (L3.DV.x (.tup hsq hds)) (L3.DV.x (L3.DV.ev (L3.Ev.grow s') d0)) he ?_
          intro v2 H2 s2 dv2
          cases dv2
          refine ⟨true, rfl, ?_⟩
          rw [if_pos rfl]
          walk_at "gh"
          exact q _ _ (s'.trans s2) .non
      | _ => unfold F__law_told at wr; dsimp only at wr; rw [h1] at wr; exact wr.elim
  | er x =>
    obtain ⟨d, h1, hd0⟩ : ∃ d, F_checked_bookR [b] = .er ⟨"NoBook", [("place", d)]⟩ ∧ L9.fsD d = true := by
      unfold F__law_told at wr
      dsimp only at wr
      rw [h1] at wr
      obtain ⟨xc, xf⟩ := x
      dsimp only at wr
      split at wr
      · rename_i hc
        subst hc
        split at wr
        · rename_i f d
          split at wr
          · rename_i hf
            obtain ⟨rfl, hd⟩ := hf
            exact ⟨d, h1, hd⟩
          · exact wr.elim
        · exact wr.elim
      · exact wr.elim
    have q : ∀ v H', Same H H' → L3.DV O K H' v (.tuple [d]) → Q v H' := by
      have e : F__law_told [b] = .ok (.fz (.tuple [d])) := by
        unfold F__law_told
        dsimp only
        rw [h1]
        dsimp only
        rw [if_pos rfl, if_pos ⟨rfl, hd0⟩]
      rw [e] at wr
      exact wr
    clear wr
    refine ⟨_, (pss_cons (ps_set (i := 1) sc__law_told.nd rfl (Or.inl rfl) pe_non)
      (pss_cons (ps_set (i := 2) sc__law_told.nd rfl (Or.inl rfl) pe_non)
      (pss_cons (L4.ps_try (i := 3) (E2 := fun c dx H1 => Same H H1 ∧ c = .ref C ∧ ∃ p fs v, dx = some p ∧ H1 p = some (.xd fs) ∧ fs.lookup ("place" : Str) = some v ∧ L3.DV O K H1 v d) rfl sc__law_told.nd rfl rfl rfl hB xB bB rfl rfl
        (fun l => pss_one (ps_set (i := 2) sc__law_told.nd rfl (Or.inl rfl) (pe_calEK c_book rfl rfl rfl rfl rfl (L4.passes_try rfl) hr (pa_cons (pv 0) pa_nil))))
        (fun l e => pss_one (ps_set (i := 1) sc__law_told.nd rfl (Or.inl rfl) (pv 3)))
        (fun c dx H1 h => ⟨C, m, h.2.1, xR, up⟩))
      (pss_cons (ps_if (PW.pt (pw_and (pt_cmpR op_isN (pv 1) pe_non (nomark _)) (pw_and (pt_val (pe_callB L3.call_isiA rfl z_isinstance b_isinstance (pa_cons (pv 2) (pa_cons (pe_bltn (v := .ty "tuple") rfl z_tuple b_tuple rfl) pa_nil)))) (pw_and1 (pt_cmpR (op_eqD hu) (pv 2) (pv 0) (nomark _)))))) (pss_one (ps_ret pe_non)) pss_nil)
      (pss_cons (ps_if (PW.pt (pw_or (pt_cmpR op_isN (pv 1) pe_non (nomark _)) (pw_or (pt_cmpR op_ne (pe_cal c__law_kind hr (pa_cons (pv 1) pa_nil)) pe_int (nomark _)) (pw_or1 (PW.pt (pw_and (pt_cmpR op_notN (L9.pe_xfld (pv 1) rfl) pe_non (nomark _)) (pw_and1 (pt_not (pt_val (pe_cal c__law_whole hr (pa_cons (L9.pe_xfld (pv 1) rfl) pa_nil))))))))))) (pss_one ps_never) pss_nil)
      (pss_one (ps_ret (pe_tup (pa_cons (L9.pe_xfld (pv 1) rfl) pa_nil))))))))), ?_⟩
    walk_at "gh"
    unfold L4.tTry
    refine ⟨?_, fun c dx H1 h2 σ' e ob hl he hc hd hn => ?_⟩
    · walk_at "gh"
      refine ⟨rfl, O, [b], hO, .cons d0 .nil, ?_⟩
      rw [h1]
      rintro c dx H' s' ⟨⟨a', e1, e2⟩, fs, g2, g3⟩
      obtain ⟨nn, v, k1, k2⟩ := g3 "place" d rfl
      have e3 := nR.symm.trans e2
      cases e3
      cases dx with
      | none => exact absurd rfl nn
      | some p => exact ⟨s', e1, p, fs, v, rfl, g2 p rfl, k1, k2⟩
    · obtain ⟨x0, x1, x2, x3, rfl⟩ : ∃ x0 x1 x2 x3, σ' = [x0, x1, x2, x3] := by
        match σ', hl with
        | [x0, x1, x2, x3], _ => exact ⟨x0, x1, x2, x3, rfl⟩
      obtain ⟨s1, rfl, p, fs, v, rfl, hx, hv, dvv⟩ := h2
      have s2' : Same H1 (upd H1 e (.frz ob (.own e))) := same_upd he _
      have s2 : Same H (upd H1 e (.frz ob (.own e))) := s1.trans s2'
      have hx2 := s2' _ _ hx
      have dv2 : L3.DV O K (upd H1 e (.frz ob (.own e))) v d := L3.DV.ev (L3.Ev.grow s2') dvv
      have eE : (upd H1 e (.frz ob (.own e))) e = some (.frz ob (.own e)) := upd_same
      have cg : Cgt C (upd H1 e (.frz ob (.own e))) e := ⟨ob, upd_same, hc, fun p' hp' => by
        rw [hd] at hp'
        cases hp'
        exact ⟨fs, hx2⟩, hn⟩
      generalize upd H1 e (.frz ob (.own e)) = H2 at s2 hx2 dv2 eE cg
      walk_at "gh"
      refine ⟨rfl, false, ?_, ?_⟩
      · show V.bl (decide (V.ref e = V.non)) = V.bl false
        rw [decide_eq_false (fun z => nomatch z)]
      rw [if_neg Bool.false_ne_true, if_neg Bool.false_ne_true]
      walk_at "gh"
      refine ⟨rfl, false, ?_, ?_⟩
      · show V.bl (decide (V.ref e = V.non)) = V.bl false
        rw [decide_eq_false (fun z => nomatch z)]
      rw [if_neg Bool.false_ne_true]
      walk_at "gh"
      refine ⟨e, rfl, cg, fun H3 s3 => ?_⟩
      walk_at "gh"
      rw [if_neg (by decide)]
      walk_at "gh"
      have xf : ∀ (σ : L2.St) (H4 : Hp) (Q' : VK), σ[1]? = some (some (.ref e)) → Same H2 H4 → Q' v H4 → L9.tXFld K (tVar 1) "place" σ H4 Q' := fun σ H4 Q' z s4 hq => ⟨V.ref e, z, e, ob, C, m, p, fs, v, rfl, s4 _ _ eE, hc, hd, hn, L, hh, hp, s4 _ _ hx2, hv, hq⟩
      have away : ∀ H5, Same H2 H5 → ∀ t, H5 t = none → H t = none := fun H5 s5 t ht => by
        cases z : H t with
        | none => rfl
        | some o => rw [s5 _ _ (s2 _ _ z)] at ht; cases ht
      have last : ∀ H5, Same H2 H5 → ∀ t, H5 t = none → Q (.ref t) (upd H5 t (.tup [v])) := fun H5 s5 t ht => by
        have s6 : Same H2 (upd H5 t (.tup [v])) := s5.trans (same_upd ht _)
        exact q _ _ (s2.trans s6) (.tup ⟨.inl (.inl upd_same), fun z => absurd (away H5 s5 t ht) (hO t z)⟩ (.cons (L3.DV.ev (L3.Ev.grow s6) dv2) .nil))
      refine xf _ _ _ rfl s3 ?_
      walk_at "gh"
      cases d with
      | none =>
        cases dv2
        refine ⟨rfl, false, rfl, ?_⟩
        rw [if_neg Bool.false_ne_true, if_neg Bool.false_ne_true]
        walk_at "gh"
        refine xf _ _ _ rfl s3 ?_
        walk_at "gh"
        exact ⟨smallE (by decide), fun t ht => last H3 s3 t ht⟩
      | int i =>
        cases dv2
        refine ⟨rfl, true, rfl, ?_⟩
        rw [if_pos rfl]
        walk_at "gh"
        refine xf _ _ _ rfl s3 ?_
        walk_at "gh"
        refine ⟨rfl, O, [.int i], fun t z ht => hO t z (away H3 s3 t ht), .cons (.int i) .nil, ?_⟩
        rw [whole_int]
        intro v' H4 s4 dv'
        cases dv'
        refine ⟨true, rfl, ?_⟩
        rw [if_neg (by decide)]
        walk_at "gh"
        refine xf _ _ _ rfl (s3.trans s4) ?_
        walk_at "gh"
        exact ⟨smallE (show 1 ≤ 10000 by decide), fun t ht => last H4 (s3.trans s4) t ht⟩
      | _ => cases hd0
end
end K61
namespace K61
open PySem L2
theorem all_mk {l : PySem.W.OpenLaw} {w : World} {K : PySem.W.Frag} {h : Heap} {mg : Str → Option Value} {fa : Addr}
    {t_MOST_WORDS : Tok}
    {t_MOST_LETTERS : Tok}
    {t_MOST_STROKES : Tok}
    {t_STROKE_KEYS : Tok}
    {f__law_cell : Addr} {od0 an0 : Option Addr} {sl0 : Array (Option Value)} {oc0 kV0 dc0 pm0 cd0 ct0 : Value}
    {f__law_stirred : Addr} {od1 an1 : Option Addr} {sl1 : Array (Option Value)} {oc1 kV1 dc1 pm1 cd1 ct1 : Value}
    {f__law_stream : Addr} {od2 an2 : Option Addr} {sl2 : Array (Option Value)} {oc2 kV2 dc2 pm2 cd2 ct2 : Value}
    {f__law_name_of : Addr} {od3 an3 : Option Addr} {sl3 : Array (Option Value)} {oc3 kV3 dc3 pm3 cd3 ct3 : Value}
    {f__law_stroke_of : Addr} {od4 an4 : Option Addr} {sl4 : Array (Option Value)} {oc4 kV4 dc4 pm4 cd4 ct4 : Value}
    {f__law_read_book : Addr} {od5 an5 : Option Addr} {sl5 : Array (Option Value)} {oc5 kV5 dc5 pm5 cd5 ct5 : Value}
    {f__law_wide : Addr} {od6 an6 : Option Addr} {sl6 : Array (Option Value)} {oc6 kV6 dc6 pm6 cd6 ct6 : Value}
    {f__law_names : Addr} {od7 an7 : Option Addr} {sl7 : Array (Option Value)} {oc7 kV7 dc7 pm7 cd7 ct7 : Value}
    {f__law_stroke : Addr} {od8 an8 : Option Addr} {sl8 : Array (Option Value)} {oc8 kV8 dc8 pm8 cd8 ct8 : Value}
    {f__law_book : Addr} {od9 an9 : Option Addr} {sl9 : Array (Option Value)} {oc9 kV9 dc9 pm9 cd9 ct9 : Value}
    {f__law_changed : Addr} {od10 an10 : Option Addr} {sl10 : Array (Option Value)} {oc10 kV10 dc10 pm10 cd10 ct10 : Value}
    {f_is_letter : Addr} {od11 an11 : Option Addr} {sl11 : Array (Option Value)} {oc11 kV11 dc11 pm11 cd11 ct11 : Value}
    {f_is_word : Addr} {od12 an12 : Option Addr} {sl12 : Array (Option Value)} {oc12 kV12 dc12 pm12 cd12 ct12 : Value}
    {f_rises : Addr} {od13 an13 : Option Addr} {sl13 : Array (Option Value)} {oc13 kV13 dc13 pm13 cd13 ct13 : Value}
    {f_is_stroke : Addr} {od14 an14 : Option Addr} {sl14 : Array (Option Value)} {oc14 kV14 dc14 pm14 cd14 ct14 : Value}
    {f_are_strokes : Addr} {od15 an15 : Option Addr} {sl15 : Array (Option Value)} {oc15 kV15 dc15 pm15 cd15 ct15 : Value}
    {f_checked_book : Addr} {od16 an16 : Option Addr} {sl16 : Array (Option Value)} {oc16 kV16 dc16 pm16 cd16 ct16 : Value}
    {f__law_good : Addr} {od17 an17 : Option Addr} {sl17 : Array (Option Value)} {oc17 kV17 dc17 pm17 cd17 ct17 : Value}
    {f__law_due : Addr} {od18 an18 : Option Addr} {sl18 : Array (Option Value)} {oc18 kV18 dc18 pm18 cd18 ct18 : Value}
    {f__law_whole : Addr} {od19 an19 : Option Addr} {sl19 : Array (Option Value)} {oc19 kV19 dc19 pm19 cd19 ct19 : Value}
    {f__law_kind : Addr} {od20 an20 : Option Addr} {sl20 : Array (Option Value)} {oc20 kV20 dc20 pm20 cd20 ct20 : Value}
    {f__law_told : Addr} {od21 an21 : Option Addr} {sl21 : Array (Option Value)} {oc21 kV21 dc21 pm21 cd21 ct21 : Value}
    {f_law : Addr} {od22 an22 : Option Addr} {sl22 : Array (Option Value)} {oc22 kV22 dc22 pm22 cd22 ct22 : Value}
    {C_NoBed C_NoFrame C_NoChord C_NoBook C_NoKeys C_NoRow C_NoText C_NoWord C_TooMany C_NoReading C_BedError : Addr} {mB : List Value}
    {nmR qR : Str} {NR : Addr} {bsR : List Value} {snR : List Str} {subR : List Value} {abR : Bool} {colR : Option Bool} {ddR : Option Addr} {k0R k1R k2R k3R k5R : Option Value}
    {nmB qB : Str} {NB : Addr} {bsB : List Value} {hdB : Bool} {snB : List Str} {subB : List Value} {abB : Bool} {colB : Option Bool} {ddB : Option Addr} {k0B k1B k2B k3B k5B : Option Value} {idB : String}
    {ocN : Value} {odN : Option Addr} {esN : Array DictEntry} {nN : Nat} {slN : Array (Option Value)}
    {f_NoBook___init__ : Addr} {od23 an23 : Option Addr} {sl23 : Array (Option Value)} {oc23 kV23 dc23 pm23 cd23 ct23 : Value} (X : K.In h) (G : h.Ns mainGlobals mg) (hfa : mg "law" = some (.ref fa))
    (a__law_cell : PySem.W.nsIn K mainGlobals "_law_cell" = some (some (.ref f__law_cell)))
    (l__law_cell : K.lookup f__law_cell = some ⟨oc0, od0, .func (PySem.W.fnOf "_law_cell" "_law_cell" (defArgs (top 25)) (defBody (top 25)) (defScope (top 25)) .none kV0 dc0 pm0 an0 cd0 ct0), sl0⟩)
    (c__law_cell_ : PySem.W.codeIn K cd0 "_law_cell" = true)
    (k__law_cell : PySem.W.keepIn K (.ref f__law_cell) = true)
    (a__law_stirred : PySem.W.nsIn K mainGlobals "_law_stirred" = some (some (.ref f__law_stirred)))
    (l__law_stirred : K.lookup f__law_stirred = some ⟨oc1, od1, .func (PySem.W.fnOf "_law_stirred" "_law_stirred" (defArgs (top 26)) (defBody (top 26)) (defScope (top 26)) .none kV1 dc1 pm1 an1 cd1 ct1), sl1⟩)
    (c__law_stirred_ : PySem.W.codeIn K cd1 "_law_stirred" = true)
    (k__law_stirred : PySem.W.keepIn K (.ref f__law_stirred) = true)
    (a__law_stream : PySem.W.nsIn K mainGlobals "_law_stream" = some (some (.ref f__law_stream)))
    (l__law_stream : K.lookup f__law_stream = some ⟨oc2, od2, .func (PySem.W.fnOf "_law_stream" "_law_stream" (defArgs (top 28)) (defBody (top 28)) (defScope (top 28)) .none kV2 dc2 pm2 an2 cd2 ct2), sl2⟩)
    (c__law_stream_ : PySem.W.codeIn K cd2 "_law_stream" = true)
    (k__law_stream : PySem.W.keepIn K (.ref f__law_stream) = true)
    (a__law_name_of : PySem.W.nsIn K mainGlobals "_law_name_of" = some (some (.ref f__law_name_of)))
    (l__law_name_of : K.lookup f__law_name_of = some ⟨oc3, od3, .func (PySem.W.fnOf "_law_name_of" "_law_name_of" (defArgs (top 33)) (defBody (top 33)) (defScope (top 33)) .none kV3 dc3 pm3 an3 cd3 ct3), sl3⟩)
    (c__law_name_of_ : PySem.W.codeIn K cd3 "_law_name_of" = true)
    (k__law_name_of : PySem.W.keepIn K (.ref f__law_name_of) = true)
    (a__law_stroke_of : PySem.W.nsIn K mainGlobals "_law_stroke_of" = some (some (.ref f__law_stroke_of)))
    (l__law_stroke_of : K.lookup f__law_stroke_of = some ⟨oc4, od4, .func (PySem.W.fnOf "_law_stroke_of" "_law_stroke_of" (defArgs (top 34)) (defBody (top 34)) (defScope (top 34)) .none kV4 dc4 pm4 an4 cd4 ct4), sl4⟩)
    (c__law_stroke_of_ : PySem.W.codeIn K cd4 "_law_stroke_of" = true)
    (k__law_stroke_of : PySem.W.keepIn K (.ref f__law_stroke_of) = true)
    (a__law_read_book : PySem.W.nsIn K mainGlobals "_law_read_book" = some (some (.ref f__law_read_book)))
    (l__law_read_book : K.lookup f__law_read_book = some ⟨oc5, od5, .func (PySem.W.fnOf "_law_read_book" "_law_read_book" (defArgs (top 35)) (defBody (top 35)) (defScope (top 35)) .none kV5 dc5 pm5 an5 cd5 ct5), sl5⟩)
    (c__law_read_book_ : PySem.W.codeIn K cd5 "_law_read_book" = true)
    (k__law_read_book : PySem.W.keepIn K (.ref f__law_read_book) = true)
    (a__law_wide : PySem.W.nsIn K mainGlobals "_law_wide" = some (some (.ref f__law_wide)))
    (l__law_wide : K.lookup f__law_wide = some ⟨oc6, od6, .func (PySem.W.fnOf "_law_wide" "_law_wide" (defArgs (top 27)) (defBody (top 27)) (defScope (top 27)) .none kV6 dc6 pm6 an6 cd6 ct6), sl6⟩)
    (c__law_wide_ : PySem.W.codeIn K cd6 "_law_wide" = true)
    (k__law_wide : PySem.W.keepIn K (.ref f__law_wide) = true)
    (a__law_names : PySem.W.nsIn K mainGlobals "_law_names" = some (some (.ref f__law_names)))
    (l__law_names : K.lookup f__law_names = some ⟨oc7, od7, .func (PySem.W.fnOf "_law_names" "_law_names" (defArgs (top 32)) (defBody (top 32)) (defScope (top 32)) .none kV7 dc7 pm7 an7 cd7 ct7), sl7⟩)
    (c__law_names_ : PySem.W.codeIn K cd7 "_law_names" = true)
    (k__law_names : PySem.W.keepIn K (.ref f__law_names) = true)
    (a__law_stroke : PySem.W.nsIn K mainGlobals "_law_stroke" = some (some (.ref f__law_stroke)))
    (l__law_stroke : K.lookup f__law_stroke = some ⟨oc8, od8, .func (PySem.W.fnOf "_law_stroke" "_law_stroke" (defArgs (top 31)) (defBody (top 31)) (defScope (top 31)) .none kV8 dc8 pm8 an8 cd8 ct8), sl8⟩)
    (c__law_stroke_ : PySem.W.codeIn K cd8 "_law_stroke" = true)
    (k__law_stroke : PySem.W.keepIn K (.ref f__law_stroke) = true)
    (a__law_book : PySem.W.nsIn K mainGlobals "_law_book" = some (some (.ref f__law_book)))
    (l__law_book : K.lookup f__law_book = some ⟨oc9, od9, .func (PySem.W.fnOf "_law_book" "_law_book" (defArgs (top 36)) (defBody (top 36)) (defScope (top 36)) .none kV9 dc9 pm9 an9 cd9 ct9), sl9⟩)
    (c__law_book_ : PySem.W.codeIn K cd9 "_law_book" = true)
    (k__law_book : PySem.W.keepIn K (.ref f__law_book) = true)
    (a__law_changed : PySem.W.nsIn K mainGlobals "_law_changed" = some (some (.ref f__law_changed)))
    (l__law_changed : K.lookup f__law_changed = some ⟨oc10, od10, .func (PySem.W.fnOf "_law_changed" "_law_changed" (defArgs (top 37)) (defBody (top 37)) (defScope (top 37)) .none kV10 dc10 pm10 an10 cd10 ct10), sl10⟩)
    (c__law_changed_ : PySem.W.codeIn K cd10 "_law_changed" = true)
    (k__law_changed : PySem.W.keepIn K (.ref f__law_changed) = true)
    (a_is_letter : PySem.W.nsIn K mainGlobals "is_letter" = some (some (.ref f_is_letter)))
    (l_is_letter : K.lookup f_is_letter = some ⟨oc11, od11, .func (PySem.W.fnOf "is_letter" "is_letter" (defArgs (top 14)) (defBody (top 14)) (defScope (top 14)) .none kV11 dc11 pm11 an11 cd11 ct11), sl11⟩)
    (c_is_letter_ : PySem.W.codeIn K cd11 "is_letter" = true)
    (k_is_letter : PySem.W.keepIn K (.ref f_is_letter) = true)
    (a_is_word : PySem.W.nsIn K mainGlobals "is_word" = some (some (.ref f_is_word)))
    (l_is_word : K.lookup f_is_word = some ⟨oc12, od12, .func (PySem.W.fnOf "is_word" "is_word" (defArgs (top 21)) (defBody (top 21)) (defScope (top 21)) .none kV12 dc12 pm12 an12 cd12 ct12), sl12⟩)
    (c_is_word_ : PySem.W.codeIn K cd12 "is_word" = true)
    (k_is_word : PySem.W.keepIn K (.ref f_is_word) = true)
    (a_rises : PySem.W.nsIn K mainGlobals "rises" = some (some (.ref f_rises)))
    (l_rises : K.lookup f_rises = some ⟨oc13, od13, .func (PySem.W.fnOf "rises" "rises" (defArgs (top 13)) (defBody (top 13)) (defScope (top 13)) .none kV13 dc13 pm13 an13 cd13 ct13), sl13⟩)
    (c_rises_ : PySem.W.codeIn K cd13 "rises" = true)
    (k_rises : PySem.W.keepIn K (.ref f_rises) = true)
    (a_is_stroke : PySem.W.nsIn K mainGlobals "is_stroke" = some (some (.ref f_is_stroke)))
    (l_is_stroke : K.lookup f_is_stroke = some ⟨oc14, od14, .func (PySem.W.fnOf "is_stroke" "is_stroke" (defArgs (top 23)) (defBody (top 23)) (defScope (top 23)) .none kV14 dc14 pm14 an14 cd14 ct14), sl14⟩)
    (c_is_stroke_ : PySem.W.codeIn K cd14 "is_stroke" = true)
    (k_is_stroke : PySem.W.keepIn K (.ref f_is_stroke) = true)
    (a_are_strokes : PySem.W.nsIn K mainGlobals "are_strokes" = some (some (.ref f_are_strokes)))
    (l_are_strokes : K.lookup f_are_strokes = some ⟨oc15, od15, .func (PySem.W.fnOf "are_strokes" "are_strokes" (defArgs (top 22)) (defBody (top 22)) (defScope (top 22)) .none kV15 dc15 pm15 an15 cd15 ct15), sl15⟩)
    (c_are_strokes_ : PySem.W.codeIn K cd15 "are_strokes" = true)
    (k_are_strokes : PySem.W.keepIn K (.ref f_are_strokes) = true)
    (a_checked_book : PySem.W.nsIn K mainGlobals "checked_book" = some (some (.ref f_checked_book)))
    (l_checked_book : K.lookup f_checked_book = some ⟨oc16, od16, .func (PySem.W.fnOf "checked_book" "checked_book" (defArgs (top 20)) (defBody (top 20)) (defScope (top 20)) .none kV16 dc16 pm16 an16 cd16 ct16), sl16⟩)
    (c_checked_book_ : PySem.W.codeIn K cd16 "checked_book" = true)
    (k_checked_book : PySem.W.keepIn K (.ref f_checked_book) = true)
    (a__law_good : PySem.W.nsIn K mainGlobals "_law_good" = some (some (.ref f__law_good)))
    (l__law_good : K.lookup f__law_good = some ⟨oc17, od17, .func (PySem.W.fnOf "_law_good" "_law_good" (defArgs (top 38)) (defBody (top 38)) (defScope (top 38)) .none kV17 dc17 pm17 an17 cd17 ct17), sl17⟩)
    (c__law_good_ : PySem.W.codeIn K cd17 "_law_good" = true)
    (k__law_good : PySem.W.keepIn K (.ref f__law_good) = true)
    (a__law_due : PySem.W.nsIn K mainGlobals "_law_due" = some (some (.ref f__law_due)))
    (l__law_due : K.lookup f__law_due = some ⟨oc18, od18, .func (PySem.W.fnOf "_law_due" "_law_due" (defArgs (top 39)) (defBody (top 39)) (defScope (top 39)) .none kV18 dc18 pm18 an18 cd18 ct18), sl18⟩)
    (c__law_due_ : PySem.W.codeIn K cd18 "_law_due" = true)
    (k__law_due : PySem.W.keepIn K (.ref f__law_due) = true)
    (a__law_whole : PySem.W.nsIn K mainGlobals "_law_whole" = some (some (.ref f__law_whole)))
    (l__law_whole : K.lookup f__law_whole = some ⟨oc19, od19, .func (PySem.W.fnOf "_law_whole" "_law_whole" (defArgs (top 29)) (defBody (top 29)) (defScope (top 29)) .none kV19 dc19 pm19 an19 cd19 ct19), sl19⟩)
    (c__law_whole_ : PySem.W.codeIn K cd19 "_law_whole" = true)
    (k__law_whole : PySem.W.keepIn K (.ref f__law_whole) = true)
    (a__law_kind : PySem.W.nsIn K mainGlobals "_law_kind" = some (some (.ref f__law_kind)))
    (l__law_kind : K.lookup f__law_kind = some ⟨oc20, od20, .func (PySem.W.fnOf "_law_kind" "_law_kind" (defArgs (top 30)) (defBody (top 30)) (defScope (top 30)) .none kV20 dc20 pm20 an20 cd20 ct20), sl20⟩)
    (c__law_kind_ : PySem.W.codeIn K cd20 "_law_kind" = true)
    (k__law_kind : PySem.W.keepIn K (.ref f__law_kind) = true)
    (a__law_told : PySem.W.nsIn K mainGlobals "_law_told" = some (some (.ref f__law_told)))
    (l__law_told : K.lookup f__law_told = some ⟨oc21, od21, .func (PySem.W.fnOf "_law_told" "_law_told" (defArgs (top 40)) (defBody (top 40)) (defScope (top 40)) .none kV21 dc21 pm21 an21 cd21 ct21), sl21⟩)
    (c__law_told_ : PySem.W.codeIn K cd21 "_law_told" = true)
    (k__law_told : PySem.W.keepIn K (.ref f__law_told) = true)
    (a_law : PySem.W.nsIn K mainGlobals "law" = some (some (.ref f_law)))
    (l_law : K.lookup f_law = some ⟨oc22, od22, .func (PySem.W.fnOf "law" "law" (defArgs (top 41)) (defBody (top 41)) (defScope (top 41)) .none kV22 dc22 pm22 an22 cd22 ct22), sl22⟩)
    (c_law_ : PySem.W.codeIn K cd22 "law" = true)
    (k_law : PySem.W.keepIn K (.ref f_law) = true)
    (aN_MOST_WORDS : PySem.W.nsIn K mainGlobals "MOST_WORDS" = some (some (.int 20 t_MOST_WORDS)))
    (aN_MOST_LETTERS : PySem.W.nsIn K mainGlobals "MOST_LETTERS" = some (some (.int 8 t_MOST_LETTERS)))
    (aN_MOST_STROKES : PySem.W.nsIn K mainGlobals "MOST_STROKES" = some (some (.int 6 t_MOST_STROKES)))
    (aN_STROKE_KEYS : PySem.W.nsIn K mainGlobals "STROKE_KEYS" = some (some (.int 12 t_STROKE_KEYS)))
    (y_len : PySem.W.nsIn K mainGlobals "len" = some none)
    (y_range : PySem.W.nsIn K mainGlobals "range" = some none)
    (y_enumerate : PySem.W.nsIn K mainGlobals "enumerate" = some none)
    (y_tuple : PySem.W.nsIn K mainGlobals "tuple" = some none)
    (y_isinstance : PySem.W.nsIn K mainGlobals "isinstance" = some none)
    (y_ValueError : PySem.W.nsIn K mainGlobals "ValueError" = some none)
    (y_max : PySem.W.nsIn K mainGlobals "max" = some none)
    (y_all : PySem.W.nsIn K mainGlobals "all" = some none)
    (y_zip : PySem.W.nsIn K mainGlobals "zip" = some none)
    (y_list : PySem.W.nsIn K mainGlobals "list" = some none)
    (y_sorted : PySem.W.nsIn K mainGlobals "sorted" = some none)
    (y_set : PySem.W.nsIn K mainGlobals "set" = some none)
    (y_int : PySem.W.nsIn K mainGlobals "int" = some none)
    (y_bool : PySem.W.nsIn K mainGlobals "bool" = some none)
    (aC_NoBed : PySem.W.nsIn K mainGlobals "NoBed" = some (some (.ref C_NoBed)))
    (aC_NoFrame : PySem.W.nsIn K mainGlobals "NoFrame" = some (some (.ref C_NoFrame)))
    (aC_NoChord : PySem.W.nsIn K mainGlobals "NoChord" = some (some (.ref C_NoChord)))
    (aC_NoReading : PySem.W.nsIn K mainGlobals "NoReading" = some (some (.ref C_NoReading)))
    (aC_NoKeys : PySem.W.nsIn K mainGlobals "NoKeys" = some (some (.ref C_NoKeys)))
    (aC_NoRow : PySem.W.nsIn K mainGlobals "NoRow" = some (some (.ref C_NoRow)))
    (aC_NoText : PySem.W.nsIn K mainGlobals "NoText" = some (some (.ref C_NoText)))
    (aC_NoWord : PySem.W.nsIn K mainGlobals "NoWord" = some (some (.ref C_NoWord)))
    (aC_TooMany : PySem.W.nsIn K mainGlobals "TooMany" = some (some (.ref C_TooMany)))
    (aC_NoBook : PySem.W.nsIn K mainGlobals "NoBook" = some (some (.ref C_NoBook)))
    (aC_BedError : PySem.W.nsIn K mainGlobals "BedError" = some (some (.ref C_BedError)))
    (xR : K.lookup C_NoBook = some (excClassObj nmR qR C_NoBook NR bsR (.ref C_BedError :: [.type "ValueError", .type "Exception", .type "BaseException", .type "object"]) true snR subR abR colR ddR k0R k1R k2R k3R k5R "ValueError.__new__"))
    (xB : K.lookup C_BedError = some (excClassObj nmB qB C_BedError NB bsB mB hdB snB subB abB colB ddB k0B k1B k2B k3B k5B idB))
    (eI : PySem.W.excIn K C_BedError [.type "ValueError", .type "Exception", .type "BaseException", .type "object"] "ValueError.__new__" = true)
    (beB : mB.contains (.type "BaseException") = true)
    (gaR : PySem.W.findIn K (.ref C_NoBook) "__getattribute__" = some (some (.builtin "BaseException.__getattribute__")))
    (gtR : PySem.W.findIn K (.ref C_NoBook) "__getattr__" = some none)
    (csR : PySem.W.findIn K (.ref C_NoBook) "__class__" = some (some (.builtin "object.__class__")))
    (obR : PySem.W.mroIn K C_NoBook (.type "object") = some true)
    (suR : PySem.W.subIn K (.ref C_NoBook) (.ref C_NoBook) = some true)
    (suV : PySem.W.subIn K (.ref C_NoBook) (.type "ValueError") = some true)
    (ic_NoBed : PySem.W.isClsIn K C_NoBed = true)
    (ty_NoBed : PySem.W.typeIn K (.ref C_NoBed) = some (.type "type"))
    (su_NoBed : PySem.W.subIn K (.ref C_NoBook) (.ref C_NoBed) = some false)
    (ic_NoFrame : PySem.W.isClsIn K C_NoFrame = true)
    (ty_NoFrame : PySem.W.typeIn K (.ref C_NoFrame) = some (.type "type"))
    (su_NoFrame : PySem.W.subIn K (.ref C_NoBook) (.ref C_NoFrame) = some false)
    (ic_NoChord : PySem.W.isClsIn K C_NoChord = true)
    (ty_NoChord : PySem.W.typeIn K (.ref C_NoChord) = some (.type "type"))
    (su_NoChord : PySem.W.subIn K (.ref C_NoBook) (.ref C_NoChord) = some false)
    (ic_NoReading : PySem.W.isClsIn K C_NoReading = true)
    (ty_NoReading : PySem.W.typeIn K (.ref C_NoReading) = some (.type "type"))
    (su_NoReading : PySem.W.subIn K (.ref C_NoBook) (.ref C_NoReading) = some false)
    (ic_NoKeys : PySem.W.isClsIn K C_NoKeys = true)
    (ty_NoKeys : PySem.W.typeIn K (.ref C_NoKeys) = some (.type "type"))
    (su_NoKeys : PySem.W.subIn K (.ref C_NoBook) (.ref C_NoKeys) = some false)
    (ic_NoRow : PySem.W.isClsIn K C_NoRow = true)
    (ty_NoRow : PySem.W.typeIn K (.ref C_NoRow) = some (.type "type"))
    (su_NoRow : PySem.W.subIn K (.ref C_NoBook) (.ref C_NoRow) = some false)
    (ic_NoText : PySem.W.isClsIn K C_NoText = true)
    (ty_NoText : PySem.W.typeIn K (.ref C_NoText) = some (.type "type"))
    (su_NoText : PySem.W.subIn K (.ref C_NoBook) (.ref C_NoText) = some false)
    (ic_NoWord : PySem.W.isClsIn K C_NoWord = true)
    (ty_NoWord : PySem.W.typeIn K (.ref C_NoWord) = some (.type "type"))
    (su_NoWord : PySem.W.subIn K (.ref C_NoBook) (.ref C_NoWord) = some false)
    (ic_TooMany : PySem.W.isClsIn K C_TooMany = true)
    (ty_TooMany : PySem.W.typeIn K (.ref C_TooMany) = some (.type "type"))
    (su_TooMany : PySem.W.subIn K (.ref C_NoBook) (.ref C_TooMany) = some false)
    (lN : K.lookup NR = some ⟨ocN, odN, .dict esN nN, slN⟩)
    (okN : (esN.all fun e => match e.key with | .str _ _ => true | _ => false) = true)
    (inN : PySem.W.nsIn K NR "__init__" = some (some (.ref f_NoBook___init__)))
    (saR : PySem.W.findIn K (.ref C_NoBook) "__setattr__" = some (some (.builtin "object.__setattr__")))
    (hdR : PySem.W.hasDictIn K C_NoBook = true)
    (plR : PySem.W.findIn K (.ref C_NoBook) "place" = some none)
    (rdB : PySem.W.readsIn K C_BedError (.type "type") = true)
    (fcB : PySem.W.findCls K (.ref C_BedError) (.type "type") "__init__" = some (.val (.builtin "ValueError.__init__")))
    (spB : PySem.W.specialIn K (.ref C_BedError) "__getattribute__" = some (some (.builtin "type.__getattribute__")))
    (a_NoBook___init__ : PySem.W.findIn K (.ref C_NoBook) "__init__" = some (some (.ref f_NoBook___init__)))
    (i_NoBook___init__ : PySem.W.isFn K (.ref f_NoBook___init__) = true)
    (l_NoBook___init__ : K.lookup f_NoBook___init__ = some ⟨oc23, od23, .func (PySem.W.fnOf "__init__" "NoBook.__init__" (defArgs (inClass (top 9) 0)) (defBody (inClass (top 9) 0)) (defScope (inClass (top 9) 0)) .none kV23 dc23 pm23 an23 cd23 ct23), sl23⟩)
    (c_NoBook___init___ : PySem.W.codeIn K cd23 "NoBook.__init__" = true)
    (k_NoBook___init__ : PySem.W.keepIn K (.ref f_NoBook___init__) = true) :
    ∃ fd : FuncData, (∀ (s : Shared) (v : Value), BindsTo s fd ⟨[v], []⟩ [("_law_script", v)]) ∧ ∀ base : Heap, K.In base → base.Ns mainGlobals mg → FnOk l.prog w K mg base CX0 6 fa fd ["_law_script"] (L3.spP K 1 F_lawH) := by
  have e := hfa.symm.trans (PySem.W.mg_of X G a_law)
  cases e
  have z_len := PySem.W.mg_none_of X G y_len
  have z_range := PySem.W.mg_none_of X G y_range
  have z_enumerate := PySem.W.mg_none_of X G y_enumerate
  have z_tuple := PySem.W.mg_none_of X G y_tuple
  have z_isinstance := PySem.W.mg_none_of X G y_isinstance
  have z_ValueError := PySem.W.mg_none_of X G y_ValueError
  have z_max := PySem.W.mg_none_of X G y_max
  have z_all := PySem.W.mg_none_of X G y_all
  have z_zip := PySem.W.mg_none_of X G y_zip
  have z_list := PySem.W.mg_none_of X G y_list
  have z_sorted := PySem.W.mg_none_of X G y_sorted
  have z_set := PySem.W.mg_none_of X G y_set
  have z_int := PySem.W.mg_none_of X G y_int
  have z_bool := PySem.W.mg_none_of X G y_bool
  have m_MOST_WORDS := PySem.W.mg_of X G aN_MOST_WORDS
  have m_MOST_LETTERS := PySem.W.mg_of X G aN_MOST_LETTERS
  have m_MOST_STROKES := PySem.W.mg_of X G aN_MOST_STROKES
  have m_STROKE_KEYS := PySem.W.mg_of X G aN_STROKE_KEYS
  have F__law_cell_ := fun_mk (st := (top 25)) l__law_cell c__law_cell_ k__law_cell
  have b__law_cell := F__law_cell_.binds (ps := ["_law_script", "_law_k"]) fun _ _ _ _ _ _ us hl => match us, hl with | [_, _], _ => rfl
  have F__law_stirred_ := fun_mk (st := (top 26)) l__law_stirred c__law_stirred_ k__law_stirred
  have b__law_stirred := F__law_stirred_.binds (ps := ["_law_cell_here", "_law_salt"]) fun _ _ _ _ _ _ us hl => match us, hl with | [_, _], _ => rfl
  have F__law_stream_ := fun_mk (st := (top 28)) l__law_stream c__law_stream_ k__law_stream
  have b__law_stream := F__law_stream_.binds (ps := ["_law_cell_here", "_law_many"]) fun _ _ _ _ _ _ us hl => match us, hl with | [_, _], _ => rfl
  have F__law_name_of_ := fun_mk (st := (top 33)) l__law_name_of c__law_name_of_ k__law_name_of
  have b__law_name_of := F__law_name_of_.binds (ps := ["_law_rest"]) fun _ _ _ _ _ _ us hl => match us, hl with | [_], _ => rfl
  have F__law_stroke_of_ := fun_mk (st := (top 34)) l__law_stroke_of c__law_stroke_of_ k__law_stroke_of
  have b__law_stroke_of := F__law_stroke_of_.binds (ps := ["_law_rest"]) fun _ _ _ _ _ _ us hl => match us, hl with | [_], _ => rfl
  have F__law_read_book_ := fun_mk (st := (top 35)) l__law_read_book c__law_read_book_ k__law_read_book
  have b__law_read_book := F__law_read_book_.binds (ps := ["_law_xs"]) fun _ _ _ _ _ _ us hl => match us, hl with | [_], _ => rfl
  have F__law_wide_ := fun_mk (st := (top 27)) l__law_wide c__law_wide_ k__law_wide
  have b__law_wide := F__law_wide_.binds (ps := ["_law_cell_here", "_law_salt"]) fun _ _ _ _ _ _ us hl => match us, hl with | [_, _], _ => rfl
  have F__law_names_ := fun_mk (st := (top 32)) l__law_names c__law_names_ k__law_names
  have b__law_names := F__law_names_.binds (ps := ["_law_cell_here", "_law_many"]) fun _ _ _ _ _ _ us hl => match us, hl with | [_, _], _ => rfl
  have F__law_stroke_ := fun_mk (st := (top 31)) l__law_stroke c__law_stroke_ k__law_stroke
  have b__law_stroke := F__law_stroke_.binds (ps := ["_law_cell_here", "_law_wide_here"]) fun _ _ _ _ _ _ us hl => match us, hl with | [_, _], _ => rfl
  have F__law_book_ := fun_mk (st := (top 36)) l__law_book c__law_book_ k__law_book
  have b__law_book := F__law_book_.binds (ps := ["_law_script", "_law_at"]) fun _ _ _ _ _ _ us hl => match us, hl with | [_, _], _ => rfl
  have F__law_changed_ := fun_mk (st := (top 37)) l__law_changed c__law_changed_ k__law_changed
  have b__law_changed := F__law_changed_.binds (ps := ["_law_book_here", "_law_way", "_law_x"]) fun _ _ _ _ _ _ us hl => match us, hl with | [_, _, _], _ => rfl
  have F_is_letter_ := fun_mk (st := (top 14)) l_is_letter c_is_letter_ k_is_letter
  have b_is_letter := F_is_letter_.binds (ps := ["text"]) fun _ _ _ _ _ _ us hl => match us, hl with | [_], _ => rfl
  have F_is_word_ := fun_mk (st := (top 21)) l_is_word c_is_word_ k_is_word
  have b_is_word := F_is_word_.binds (ps := ["text"]) fun _ _ _ _ _ _ us hl => match us, hl with | [_], _ => rfl
  have F_rises_ := fun_mk (st := (top 13)) l_rises c_rises_ k_rises
  have b_rises := F_rises_.binds (ps := ["keys"]) fun _ _ _ _ _ _ us hl => match us, hl with | [_], _ => rfl
  have F_is_stroke_ := fun_mk (st := (top 23)) l_is_stroke c_is_stroke_ k_is_stroke
  have b_is_stroke := F_is_stroke_.binds (ps := ["keys"]) fun _ _ _ _ _ _ us hl => match us, hl with | [_], _ => rfl
  have F_are_strokes_ := fun_mk (st := (top 22)) l_are_strokes c_are_strokes_ k_are_strokes
  have b_are_strokes := F_are_strokes_.binds (ps := ["strokes"]) fun _ _ _ _ _ _ us hl => match us, hl with | [_], _ => rfl
  have F_checked_book_ := fun_mk (st := (top 20)) l_checked_book c_checked_book_ k_checked_book
  have b_checked_book := F_checked_book_.binds (ps := ["book"]) fun _ _ _ _ _ _ us hl => match us, hl with | [_], _ => rfl
  have F__law_good_ := fun_mk (st := (top 38)) l__law_good c__law_good_ k__law_good
  have b__law_good := F__law_good_.binds (ps := ["_law_book_here", "_law_at"]) fun _ _ _ _ _ _ us hl => match us, hl with | [_, _], _ => rfl
  have F__law_due_ := fun_mk (st := (top 39)) l__law_due c__law_due_ k__law_due
  have b__law_due := F__law_due_.binds (ps := ["_law_book_here"]) fun _ _ _ _ _ _ us hl => match us, hl with | [_], _ => rfl
  have F__law_whole_ := fun_mk (st := (top 29)) l__law_whole c__law_whole_ k__law_whole
  have b__law_whole := F__law_whole_.binds (ps := ["_law_thing"]) fun _ _ _ _ _ _ us hl => match us, hl with | [_], _ => rfl
  have F__law_kind_ := fun_mk (st := (top 30)) l__law_kind c__law_kind_ k__law_kind
  have b__law_kind := F__law_kind_.binds (ps := ["_law_e"]) fun _ _ _ _ _ _ us hl => match us, hl with | [_], _ => rfl
  have F__law_told_ := fun_mk (st := (top 40)) l__law_told c__law_told_ k__law_told
  have b__law_told := F__law_told_.binds (ps := ["_law_book_here"]) fun _ _ _ _ _ _ us hl => match us, hl with | [_], _ => rfl
  have F_law_ := fun_mk (st := (top 41)) l_law c_law_ k_law
  have b_law := F_law_.binds (ps := ["_law_script"]) fun _ _ _ _ _ _ us hl => match us, hl with | [_], _ => rfl
  have F_NoBook___init___ := fun_mk (st := (inClass (top 9) 0)) l_NoBook___init__ c_NoBook___init___ k_NoBook___init__
  have b_NoBook___init__ := F_NoBook___init___.binds (ps := ["self", "place"]) fun _ _ _ _ _ _ us hl => match us, hl with | [_, _], _ => rfl
  refine ⟨PySem.W.fnOf "law" "law" (defArgs (top 41)) (defBody (top 41)) (defScope (top 41)) .none kV22 dc22 pm22 an22 cd22 ct22, fun s v => .of_eq rfl, fun base _ _ => ?_⟩
  have c__law_cell : L3.CalP l.prog w K mg base 1 "_law_cell" ["_law_script", "_law_k"] 2 F__law_cell := ⟨f__law_cell, _, ok__law_cell F__law_cell_, b__law_cell, k__law_cell, PySem.W.mg_of X G a__law_cell⟩
  have c__law_stirred : L3.CalP l.prog w K mg base 1 "_law_stirred" ["_law_cell_here", "_law_salt"] 2 F__law_stirred := ⟨f__law_stirred, _, ok__law_stirred F__law_stirred_, b__law_stirred, k__law_stirred, PySem.W.mg_of X G a__law_stirred⟩
  have c__law_stream : L3.CalP l.prog w K mg base 2 "_law_stream" ["_law_cell_here", "_law_many"] 2 F__law_stream := ⟨f__law_stream, _, ok__law_stream F__law_stream_ c__law_stirred z_max z_range, b__law_stream, k__law_stream, PySem.W.mg_of X G a__law_stream⟩
  have c__law_name_of : L3.CalP l.prog w K mg base 1 "_law_name_of" ["_law_rest"] 1 F__law_name_of := ⟨f__law_name_of, _, ok__law_name_of F__law_name_of_ z_range, b__law_name_of, k__law_name_of, PySem.W.mg_of X G a__law_name_of⟩
  have c__law_stroke_of : L3.CalP l.prog w K mg base 1 "_law_stroke_of" ["_law_rest"] 1 F__law_stroke_of := ⟨f__law_stroke_of, _, ok__law_stroke_of F__law_stroke_of_ z_range z_tuple, b__law_stroke_of, k__law_stroke_of, PySem.W.mg_of X G a__law_stroke_of⟩
  have c__law_read_book : L3.CalP l.prog w K mg base 2 "_law_read_book" ["_law_xs"] 1 F__law_read_book := ⟨f__law_read_book, _, ok__law_read_book F__law_read_book_ c__law_name_of c__law_stroke_of z_range z_tuple, b__law_read_book, k__law_read_book, PySem.W.mg_of X G a__law_read_book⟩
  have c__law_wide : L3.CalP l.prog w K mg base 2 "_law_wide" ["_law_cell_here", "_law_salt"] 2 F__law_wide := ⟨f__law_wide, _, ok__law_wide F__law_wide_ c__law_stirred z_max, b__law_wide, k__law_wide, PySem.W.mg_of X G a__law_wide⟩
  have c__law_names : L3.CalP l.prog w K mg base 1 "_law_names" ["_law_cell_here", "_law_many"] 2 F__law_names := ⟨f__law_names, _, ok__law_names F__law_names_ z_range, b__law_names, k__law_names, PySem.W.mg_of X G a__law_names⟩
  have c__law_stroke : L3.CalP l.prog w K mg base 1 "_law_stroke" ["_law_cell_here", "_law_wide_here"] 2 F__law_stroke := ⟨f__law_stroke, _, ok__law_stroke F__law_stroke_ z_range z_len z_tuple, b__law_stroke, k__law_stroke, PySem.W.mg_of X G a__law_stroke⟩
  have c__law_book : L3.CalP l.prog w K mg base 3 "_law_book" ["_law_script", "_law_at"] 2 F__law_book := ⟨f__law_book, _, ok__law_book F__law_book_ c__law_cell c__law_stream c__law_read_book c__law_wide c__law_names c__law_stroke z_range z_tuple, b__law_book, k__law_book, PySem.W.mg_of X G a__law_book⟩
  have c__law_changed : L3.CalP l.prog w K mg base 1 "_law_changed" ["_law_book_here", "_law_way", "_law_x"] 3 F__law_changed := ⟨f__law_changed, _, ok__law_changed F__law_changed_ z_range z_max z_len z_tuple, b__law_changed, k__law_changed, PySem.W.mg_of X G a__law_changed⟩
  have c_is_letter : L3.CalP l.prog w K mg base 1 "is_letter" ["text"] 1 F_is_letter := ⟨f_is_letter, _, ok_is_letter F_is_letter_ z_len, b_is_letter, k_is_letter, PySem.W.mg_of X G a_is_letter⟩
  have c_is_word : L3.CalP l.prog w K mg base 2 "is_word" ["text"] 1 F_is_word := ⟨f_is_word, _, ok_is_word F_is_word_ c_is_letter z_len z_all m_MOST_LETTERS, b_is_word, k_is_word, PySem.W.mg_of X G a_is_word⟩
  have c_rises : L3.CalP l.prog w K mg base 1 "rises" ["keys"] 1 F_rises := ⟨f_rises, _, ok_rises F_rises_ z_all z_zip, b_rises, k_rises, PySem.W.mg_of X G a_rises⟩
  have c_is_stroke : L3.CalP l.prog w K mg base 2 "is_stroke" ["keys"] 1 F_is_stroke := ⟨f_is_stroke, _, ok_is_stroke F_is_stroke_ c_rises z_len z_all m_STROKE_KEYS, b_is_stroke, k_is_stroke, PySem.W.mg_of X G a_is_stroke⟩
  have c_are_strokes : L3.CalP l.prog w K mg base 3 "are_strokes" ["strokes"] 1 F_are_strokes := ⟨f_are_strokes, _, ok_are_strokes F_are_strokes_ c_is_stroke z_len z_all m_MOST_STROKES, b_are_strokes, k_are_strokes, PySem.W.mg_of X G a_are_strokes⟩
  have c__law_good : L3.CalP l.prog w K mg base 1 "_law_good" ["_law_book_here", "_law_at"] 2 F__law_good := ⟨f__law_good, _, ok__law_good F__law_good_ z_range z_len z_all z_list z_sorted z_set, b__law_good, k__law_good, PySem.W.mg_of X G a__law_good⟩
  have c__law_due : L3.CalP l.prog w K mg base 2 "_law_due" ["_law_book_here"] 1 F__law_due := ⟨f__law_due, _, ok__law_due F__law_due_ c__law_good z_range z_len, b__law_due, k__law_due, PySem.W.mg_of X G a__law_due⟩
  have c__law_whole : L3.CalP l.prog w K mg base 1 "_law_whole" ["_law_thing"] 1 F__law_whole := ⟨f__law_whole, _, ok__law_whole F__law_whole_ z_isinstance z_int z_bool, b__law_whole, k__law_whole, PySem.W.mg_of X G a__law_whole⟩
  have okN : PySem.W.nsOkIn K NR = true := by unfold PySem.W.nsOkIn; rw [lN]; exact okN
  have XR : L4.ExCls K C_NoBook (.ref C_BedError :: [.type "ValueError", .type "Exception", .type "BaseException", .type "object"]) := ⟨_, _, _, _, _, _, _, _, _, _, _, _, _, _, _, _, xR⟩
  have XB : L4.ExCls K C_BedError mB := ⟨_, _, _, _, _, _, _, _, _, _, _, _, _, _, _, _, xB⟩
  have LR : L4.ExLook K C_NoBook (.ref C_BedError :: [.type "ValueError", .type "Exception", .type "BaseException", .type "object"]) := ⟨XR, rfl, gaR, gtR, csR, obR⟩
  have XX : L9.XC K C_NoBook C_BedError f_NoBook___init__ := ⟨⟨_, _, _, _, _, _, _, _, _, _, _, _, _, _, xR, okN, inN⟩, eI, saR⟩
  have m_NoBed := PySem.W.mg_of X G aC_NoBed
  have m_NoFrame := PySem.W.mg_of X G aC_NoFrame
  have m_NoChord := PySem.W.mg_of X G aC_NoChord
  have m_NoReading := PySem.W.mg_of X G aC_NoReading
  have m_NoKeys := PySem.W.mg_of X G aC_NoKeys
  have m_NoRow := PySem.W.mg_of X G aC_NoRow
  have m_NoText := PySem.W.mg_of X G aC_NoText
  have m_NoWord := PySem.W.mg_of X G aC_NoWord
  have m_TooMany := PySem.W.mg_of X G aC_TooMany
  have m_NoBook := PySem.W.mg_of X G aC_NoBook
  have m_BedError := PySem.W.mg_of X G aC_BedError
  have k_NoBed := kit_of suR ic_NoBed ty_NoBed su_NoBed
  have k_NoFrame := kit_of suR ic_NoFrame ty_NoFrame su_NoFrame
  have k_NoChord := kit_of suR ic_NoChord ty_NoChord su_NoChord
  have k_NoReading := kit_of suR ic_NoReading ty_NoReading su_NoReading
  have k_NoKeys := kit_of suR ic_NoKeys ty_NoKeys su_NoKeys
  have k_NoRow := kit_of suR ic_NoRow ty_NoRow su_NoRow
  have k_NoText := kit_of suR ic_NoText ty_NoText su_NoText
  have k_NoWord := kit_of suR ic_NoWord ty_NoWord su_NoWord
  have k_TooMany := kit_of suR ic_TooMany ty_TooMany su_TooMany
  have k_NoBook : PySem.W.kitOne K (.ref C_NoBook) (.ref C_NoBook) = some true := kit_self _
  have c__law_kind : CalOk l.prog w K mg base 1 "_law_kind" ["_law_e"] (spKindJ C_NoBook 3) := ⟨f__law_kind, _, ok_kind (j := 3) (by decide) F__law_kind_ LR m_NoBed m_NoChord m_NoText m_NoBook m_NoWord m_NoFrame m_NoReading m_TooMany m_NoKeys m_NoRow k_NoBed k_NoChord k_NoText k_NoBook k_NoWord k_NoFrame k_NoReading k_TooMany k_NoKeys k_NoRow (kit_ve suV) z_isinstance z_ValueError, b__law_kind, k__law_kind, PySem.W.mg_of X G a__law_kind⟩
  have oI := ok_initNB (P := l.prog) (w := w) (mg := mg) (base := base) F_NoBook___init___ XX m_BedError rdB fcB spB plR
  have c_book : L4.CalE l.prog w K mg base 4 "checked_book" ["book"] 1 F_checked_bookR := ⟨f_checked_book, _, ok_checked_bookR F_checked_book_ XX l_NoBook___init__ i_NoBook___init__ oI b_NoBook___init__ aC_NoBook m_NoBook c_is_word c_are_strokes z_len z_enumerate m_MOST_WORDS, b_checked_book, k_checked_book, PySem.W.mg_of X G a_checked_book⟩
  have c__law_told : L3.CalP l.prog w K mg base 5 "_law_told" ["_law_book_here"] 1 F__law_told := ⟨f__law_told, _, ok_told F__law_told_ c__law_kind c__law_whole c_book m_BedError XB beB XR (by rw [List.contains_cons, List.contains_cons, beq_self_eq_true, Bool.true_or, Bool.or_true]) aC_NoBook LR hdR plR z_isinstance z_tuple, b__law_told, k__law_told, PySem.W.mg_of X G a__law_told⟩
  exact ok_law F_law_ c__law_book c__law_cell c__law_wide c__law_changed c__law_told c__law_due z_range z_len
end K61
noncomputable def PySem.W.Fast.tw18135883236689029086 : Unit := ()
noncomputable def PySem.W.Fast.tw3066084153750518623 : Unit := ()
noncomputable def PySem.W.Fast.tw5098501439304881139 : Unit := ()
noncomputable def PySem.W.Fast.tw17783914379829990891 : Unit := ()
noncomputable def PySem.W.Fast.tw14888246434508007310 : Unit := ()
noncomputable def PySem.W.Fast.tw16043464811933591744 : Unit := ()
noncomputable def PySem.W.Fast.tw15284485136527243870 : Unit := ()
noncomputable def PySem.W.Fast.tw1071915720028632142 : Unit := ()
noncomputable def PySem.W.Fast.tw12882444841013312133 : Unit := ()
noncomputable def PySem.W.Fast.tw13493591954811744999 : Unit := ()
noncomputable def PySem.W.Fast.tw16509424893934442380 : Unit := ()
noncomputable def PySem.W.Fast.tw17762580945013715602 : Unit := ()
open PySem PySem.W PyProof.Rows
set_option maxRecDepth 100000 in
set_option maxHeartbeats 0 in
theorem PySem.Challenge.cw_chordbed_k61_books_holds : PySem.Challenge.rw_chordbed_k61_books.Holds := by
  w_on; o_law; k_head; (case hw => w_witness2)
  k_fill
  refine L3.walkX (l := PySem.Challenge.rw_chordbed_k61_books) (n := 63) (k := 6) (x := "_law_script") (F := K61.F_lawH) rfl (by decide) rfl ⟨rfl, by decide, by decide⟩ (fun w h Y => PySem.W.kIn_of Y) ?F K61.main
  case F =>
    intro w mg fa h KX G hmg
    refine' K61.all_mk KX G hmg ?a__law_cell ?l__law_cell ?c__law_cell_ ?k__law_cell ?a__law_stirred ?l__law_stirred ?c__law_stirred_ ?k__law_stirred ?a__law_stream ?l__law_stream ?c__law_stream_ ?k__law_stream ?a__law_name_of ?l__law_name_of ?c__law_name_of_ ?k__law_name_of ?a__law_stroke_of ?l__law_stroke_of ?c__law_stroke_of_ ?k__law_stroke_of ?a__law_read_book ?l__law_read_book ?c__law_read_book_ ?k__law_read_book ?a__law_wide ?l__law_wide ?c__law_wide_ ?k__law_wide ?a__law_names ?l__law_names ?c__law_names_ ?k__law_names ?a__law_stroke ?l__law_stroke ?c__law_stroke_ ?k__law_stroke ?a__law_book ?l__law_book ?c__law_book_ ?k__law_book ?a__law_changed ?l__law_changed ?c__law_changed_ ?k__law_changed ?a_is_letter ?l_is_letter ?c_is_letter_ ?k_is_letter ?a_is_word ?l_is_word ?c_is_word_ ?k_is_word ?a_rises ?l_rises ?c_rises_ ?k_rises ?a_is_stroke ?l_is_stroke ?c_is_stroke_ ?k_is_stroke ?a_are_strokes ?l_are_strokes ?c_are_strokes_ ?k_are_strokes ?a_checked_book ?l_checked_book ?c_checked_book_ ?k_checked_book ?a__law_good ?l__law_good ?c__law_good_ ?k__law_good ?a__law_due ?l__law_due ?c__law_due_ ?k__law_due ?a__law_whole ?l__law_whole ?c__law_whole_ ?k__law_whole ?a__law_kind ?l__law_kind ?c__law_kind_ ?k__law_kind ?a__law_told ?l__law_told ?c__law_told_ ?k__law_told ?a_law ?l_law ?c_law_ ?k_law ?aN_MOST_WORDS ?aN_MOST_LETTERS ?aN_MOST_STROKES ?aN_STROKE_KEYS ?y_len ?y_range ?y_enumerate ?y_tuple ?y_isinstance ?y_ValueError ?y_max ?y_all ?y_zip ?y_list ?y_sorted ?y_set ?y_int ?y_bool ?aC_NoBed ?aC_NoFrame ?aC_NoChord ?aC_NoReading ?aC_NoKeys ?aC_NoRow ?aC_NoText ?aC_NoWord ?aC_TooMany ?aC_NoBook ?aC_BedError ?xR ?xB ?eI ?beB ?gaR ?gtR ?csR ?obR ?suR ?suV ?ic_NoBed ?ty_NoBed ?su_NoBed ?ic_NoFrame ?ty_NoFrame ?su_NoFrame ?ic_NoChord ?ty_NoChord ?su_NoChord ?ic_NoReading ?ty_NoReading ?su_NoReading ?ic_NoKeys ?ty_NoKeys ?su_NoKeys ?ic_NoRow ?ty_NoRow ?su_NoRow ?ic_NoText ?ty_NoText ?su_NoText ?ic_NoWord ?ty_NoWord ?su_NoWord ?ic_TooMany ?ty_TooMany ?su_TooMany ?lN ?okN ?inN ?saR ?hdR ?plR ?rdB ?fcB ?spB ?a_NoBook___init__ ?i_NoBook___init__ ?l_NoBook___init__ ?c_NoBook___init___ ?k_NoBook___init__
    (case a__law_cell => k_is)
    (case l__law_cell => k_is)
    (case c__law_cell_ => k_is)
    (case k__law_cell => k_is)
    (case a__law_stirred => k_is)
    (case l__law_stirred => k_is)
    (case c__law_stirred_ => k_is)
    (case k__law_stirred => k_is)
    (case a__law_stream => k_is)
    (case l__law_stream => k_is)
    (case c__law_stream_ => k_is)
    (case k__law_stream => k_is)
    (case a__law_name_of => k_is)
    (case l__law_name_of => k_is)
    (case c__law_name_of_ => k_is)
    (case k__law_name_of => k_is)
    (case a__law_stroke_of => k_is)
    (case l__law_stroke_of => k_is)
    (case c__law_stroke_of_ => k_is)
    (case k__law_stroke_of => k_is)
    (case a__law_read_book => k_is)
    (case l__law_read_book => k_is)
    (case c__law_read_book_ => k_is)
    (case k__law_read_book => k_is)
    (case a__law_wide => k_is)
    (case l__law_wide => k_is)
    (case c__law_wide_ => k_is)
    (case k__law_wide => k_is)
    (case a__law_names => k_is)
    (case l__law_names => k_is)
    (case c__law_names_ => k_is)
    (case k__law_names => k_is)
    (case a__law_stroke => k_is)
    (case l__law_stroke => k_is)
    (case c__law_stroke_ => k_is)
    (case k__law_stroke => k_is)
    (case a__law_book => k_is)
    (case l__law_book => k_is)
    (case c__law_book_ => k_is)
    (case k__law_book => k_is)
    (case a__law_changed => k_is)
    (case l__law_changed => k_is)
    (case c__law_changed_ => k_is)
    (case k__law_changed => k_is)
    (case a_is_letter => k_is)
    (case l_is_letter => k_is)
    (case c_is_letter_ => k_is)
    (case k_is_letter => k_is)
    (case a_is_word => k_is)
    (case l_is_word => k_is)
    (case c_is_word_ => k_is)
    (case k_is_word => k_is)
    (case a_rises => k_is)
    (case l_rises => k_is)
    (case c_rises_ => k_is)
    (case k_rises => k_is)
    (case a_is_stroke => k_is)
    (case l_is_stroke => k_is)
    (case c_is_stroke_ => k_is)
    (case k_is_stroke => k_is)
    (case a_are_strokes => k_is)
    (case l_are_strokes => k_is)
    (case c_are_strokes_ => k_is)
    (case k_are_strokes => k_is)
    (case a_checked_book => k_is)
    (case l_checked_book => k_is)
    (case c_checked_book_ => k_is)
    (case k_checked_book => k_is)
    (case a__law_good => k_is)
    (case l__law_good => k_is)
    (case c__law_good_ => k_is)
    (case k__law_good => k_is)
    (case a__law_due => k_is)
    (case l__law_due => k_is)
    (case c__law_due_ => k_is)
    (case k__law_due => k_is)
    (case a__law_whole => k_is)
    (case l__law_whole => k_is)
    (case c__law_whole_ => k_is)
    (case k__law_whole => k_is)
    (case a__law_kind => k_is)
    (case l__law_kind => k_is)
    (case c__law_kind_ => k_is)
    (case k__law_kind => k_is)
    (case a__law_told => k_is)
    (case l__law_told => k_is)
    (case c__law_told_ => k_is)
    (case k__law_told => k_is)
    (case a_law => k_is)
    (case l_law => k_is)
    (case c_law_ => k_is)
    (case k_law => k_is)
    (case aN_MOST_WORDS => k_is)
    (case aN_MOST_LETTERS => k_is)
    (case aN_MOST_STROKES => k_is)
    (case aN_STROKE_KEYS => k_is)
    (case y_len => k_is)
    (case y_range => k_is)
    (case y_enumerate => k_is)
    (case y_tuple => k_is)
    (case y_isinstance => k_is)
    (case y_ValueError => k_is)
    (case y_max => k_is)
    (case y_all => k_is)
    (case y_zip => k_is)
    (case y_list => k_is)
    (case y_sorted => k_is)
    (case y_set => k_is)
    (case y_int => k_is)
    (case y_bool => k_is)
    (case aC_NoBed => k_is)
    (case aC_NoFrame => k_is)
    (case aC_NoChord => k_is)
    (case aC_NoReading => k_is)
    (case aC_NoKeys => k_is)
    (case aC_NoRow => k_is)
    (case aC_NoText => k_is)
    (case aC_NoWord => k_is)
    (case aC_TooMany => k_is)
    (case aC_NoBook => k_is)
    (case aC_BedError => k_is)
    (case xR => k_is)
    (case xB => k_is)
    (case eI => k_exc)
    (case beB => first | rfl | decide +kernel)
    (case gaR => k_is)
    (case gtR => k_is)
    (case csR => k_is)
    (case obR => k_is)
    (case suR => k_is)
    (case suV => k_is)
    (case ic_NoBed => k_is)
    (case ty_NoBed => k_is)
    (case su_NoBed => k_is)
    (case ic_NoFrame => k_is)
    (case ty_NoFrame => k_is)
    (case su_NoFrame => k_is)
    (case ic_NoChord => k_is)
    (case ty_NoChord => k_is)
    (case su_NoChord => k_is)
    (case ic_NoReading => k_is)
    (case ty_NoReading => k_is)
    (case su_NoReading => k_is)
    (case ic_NoKeys => k_is)
    (case ty_NoKeys => k_is)
    (case su_NoKeys => k_is)
    (case ic_NoRow => k_is)
    (case ty_NoRow => k_is)
    (case su_NoRow => k_is)
    (case ic_NoText => k_is)
    (case ty_NoText => k_is)
    (case su_NoText => k_is)
    (case ic_NoWord => k_is)
    (case ty_NoWord => k_is)
    (case su_NoWord => k_is)
    (case ic_TooMany => k_is)
    (case ty_TooMany => k_is)
    (case su_TooMany => k_is)
    (case lN => k_is)
    (case okN => (rw [← Array.all_toList]; rfl))
    (case inN => k_is)
    (case saR => k_is)
    (case hdR => k_is)
    (case plR => k_is)
    (case rdB => k_is)
    (case fcB => k_is)
    (case spB => k_is)
    (case a_NoBook___init__ => k_is)
    (case i_NoBook___init__ => k_is)
    (case l_NoBook___init__ => k_is)
    (case c_NoBook___init___ => k_is)
    (case k_NoBook___init__ => k_is)
