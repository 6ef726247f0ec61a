import PyProof.Rows.All
import Wide.All
import OpenK.AllK
import Wide.FinOn
import Lean
import PyProof.EqAt
import PyProof.EqKinds
import PyProof.TupleCall
import KE.KIntText
import PySem.Challenge.RW_chordbed_k23_beds_written
set_option Elab.async false
set_option linter.all false
set_option maxRecDepth 100000
/-! THE HAND LAYER, for ints, bools, texts, own classes, LISTS and tuples (index, slices, in, append, pop ..), calls, loops. Paste it whole ahead of your own text; what your proof does not reach may be deleted. -/
namespace L2
open PySem PySem.Spec PyProof.Rows

/-- a key: an int or a str -/
noncomputable abbrev Key := Sum Int Str
noncomputable def keyIs : Key → Value → Bool
  | .inl k, v => Value.isInt k v
  | .inr x, v => Value.isStrOf x v
noncomputable def keyH (w : World) : Key → Int
  | .inl k => hashInt k
  | .inr x => hashStr w x
theorem keyIs_shape : ∀ {k : Key} {v : Value}, keyIs k v = true → (∃ i t, k = Sum.inl i ∧ v = Value.int i t) ∨ (∃ x t, k = Sum.inr x ∧ v = Value.str x t)
  | .inl i, v, h => by
    obtain ⟨t, e⟩ := Value.isInt_shape (k := i) (v := v) h
    exact .inl ⟨i, t, rfl, e⟩
  | .inr x, v, h => by
    obtain ⟨t, e⟩ := Value.isStrOf_shape (x := x) (v := v) h
    exact .inr ⟨x, t, rfl, e⟩
theorem key_ll (a b : Int) : decide ((Sum.inl a : Key) = Sum.inl b) = (a == b) := by
  by_cases e : a = b
  · subst e; simp
  · have h : ¬ (Sum.inl a : Key) = Sum.inl b := fun q => e (Sum.inl.inj q)
    rw [decide_eq_false h]
    exact (beq_eq_false_iff_ne.mpr e).symm
theorem key_rr (a b : Str) : decide ((Sum.inr a : Key) = Sum.inr b) = decide (a = b) := by
  by_cases e : a = b
  · subst e; simp
  · have h : ¬ (Sum.inr a : Key) = Sum.inr b := fun q => e (Sum.inr.inj q)
    rw [decide_eq_false h, decide_eq_false e]
theorem key_lr (a : Int) (b : Str) : decide ((Sum.inl a : Key) = Sum.inr b) = false := decide_eq_false (fun q => nomatch q)
theorem key_rl (a : Str) (b : Int) : decide ((Sum.inr a : Key) = Sum.inl b) = false := decide_eq_false (fun q => nomatch q)

noncomputable def mixKind (prog : Program) (w : World) : PySem.KeyKind prog w Key where
  is := keyIs
  hash := keyH w
  inj := fun v a b ha hb => by
    rcases keyIs_shape ha with ⟨i, t, rfl, rfl⟩ | ⟨x, t, rfl, rfl⟩
    · rcases keyIs_shape hb with ⟨j, u, rfl, e⟩ | ⟨y, u, rfl, e⟩
      · injection e with e1 _; rw [e1]
      · exact nomatch e
    · rcases keyIs_shape hb with ⟨j, u, rfl, e⟩ | ⟨y, u, rfl, e⟩
      · exact nomatch e
      · injection e with e1 _; rw [e1]
  byValue := fun k v h => by
    rcases keyIs_shape h with ⟨i, t, rfl, rfl⟩ | ⟨x, t, rfl, rfl⟩ <;> rfl
  pyHash := fun hv h => by
    rcases keyIs_shape hv with ⟨i, t, rfl, rfl⟩ | ⟨x, t, rfl, rfl⟩
    · exact wpAny_pyHash_int h
    · exact wpAny_pyHash_str h
  eqBool := fun hu hv h => by
    rcases keyIs_shape hu with ⟨i, t, rfl, rfl⟩ | ⟨x, t, rfl, rfl⟩
    · rcases keyIs_shape hv with ⟨j, u, rfl, rfl⟩ | ⟨y, u, rfl, rfl⟩
      · rw [key_ll] at h; exact wpAny_eqBool_int h
      · rw [key_lr] at h; exact SeqAt.EqAt.int_str i t y u _ _ _ _ h
    · rcases keyIs_shape hv with ⟨j, u, rfl, rfl⟩ | ⟨y, u, rfl, rfl⟩
      · rw [key_rl] at h; exact SeqAt.EqAt.str_int x t j u _ _ _ _ h
      · rw [key_rr] at h; exact wpAny_eqBool_str h
  «strs» := fun k x t v h => by
    rcases keyIs_shape h with ⟨i, u, rfl, e⟩ | ⟨y, u, rfl, e⟩
    · exact nomatch e
    · injection e with e1 _
      subst e1
      cases v <;> rfl

end L2

namespace L2
open PySem PySem.Spec PyProof.Rows

/-- a value, without the heap -/
inductive V where
  | non | bl (b : Bool) | int (i : Int) | str (x : Str) | byt (b : Array UInt8) | flt (b : UInt64) | ref (a : Addr) | ty (n : String)
  deriving DecidableEq

noncomputable def RelV : V → Value → Prop
  | .non, u => u = Value.none
  | .bl b, u => u = Value.bool b
  | .int i, u => ∃ t, u = Value.int i t
  | .str x, u => ∃ t, u = Value.str x t
  | .byt b, u => ∃ t, u = Value.bytes b t
  | .flt b, u => ∃ t, u = Value.float b t
  | .ref a, u => u = Value.ref a
  | .ty n, u => u = Value.type n

noncomputable abbrev Vals : List V → List Value → Prop := Paired RelV
theorem Vals.length {xs : List V} {us : List Value} (r : Vals xs us) : xs.length = us.length := Paired.length r
theorem Vals.get : ∀ {xs : List V} {us : List Value} {i : Nat} {x : V}, Vals xs us → xs[i]? = some x → ∃ u, us[i]? = some u ∧ RelV x u
  | _, _, _, _, .nil, e => by simp at e
  | _, _, 0, _, .cons r _, e => by simp at e; subst e; exact ⟨_, rfl, r⟩
  | _, _, i + 1, x, .cons _ t, e => by
    obtain ⟨u, h1, h2⟩ := Vals.get (i := i) (x := x) t (by simpa using e)
    exact ⟨u, by simpa using h1, h2⟩
theorem Vals.set {x : V} {u : Value} (r : RelV x u) : ∀ {xs : List V} {us : List Value} (i : Nat), Vals xs us → Vals (xs.set i x) (us.set i u)
  | _, _, _, .nil => .nil
  | _, _, 0, .cons _ t => .cons r t
  | _, _, i + 1, .cons q t => .cons q (Vals.set r i t)
theorem Vals.append : ∀ {xs ys : List V} {us ws : List Value}, Vals xs us → Vals ys ws → Vals (xs ++ ys) (us ++ ws)
  | _, _, _, _, .nil, s => s
  | _, _, _, _, .cons r t, s => .cons r (Vals.append t s)
theorem Vals.take : ∀ {xs : List V} {us : List Value} (n : Nat), Vals xs us → Vals (xs.take n) (us.take n)
  | _, _, 0, _ => .nil
  | _, _, _ + 1, .nil => .nil
  | _, _, n + 1, .cons r t => .cons r (Vals.take n t)
theorem Vals.drop : ∀ {xs : List V} {us : List Value} (n : Nat), Vals xs us → Vals (xs.drop n) (us.drop n)
  | _, _, 0, r => r
  | _, _, _ + 1, .nil => .nil
  | _, _, n + 1, .cons _ t => Vals.drop n t

noncomputable def RelO : Option V → Option Value → Prop
  | some v, some u => RelV v u
  | none, none => True
  | _, _ => False
noncomputable def KV {κ : Type} : List (κ × V) → List (κ × Value) → Prop := Paired fun (p : κ × V) (q : κ × Value) => p.1 = q.1 ∧ RelV p.2 q.2

/-- a key of a dict (00_mix): an int or a text -/
noncomputable def kV : Key → V
  | .inl i => .int i
  | .inr x => .str x

/-- what stands at a tracked address -/
inductive HO where
  /-- a list -/
  | lst (xs : List V)
  /-- a tuple (never changes) -/
  | tup (xs : List V)
  /-- a dict whose keys are ints and texts; one whose keys are tuples of ints and texts (the empty one is both) -/
  | dK (kvs : List (Key × V)) | dT (kvs : List (List Key × V))
  /-- a set of ints: its members, its size -/
  | set (S : Int → Bool) (n : Nat)
  /-- an instance of the class at C, its dict at dx, its attributes -/
  | ins (C dx : Addr) (fs : List (Str × V))
  /-- the dict of the instance at x -/
  | own (x : Addr)
  /-- the dict of an exception -/
  | xd (fs : List (Str × V))
  /-- a bound method, f of x -/
  | met (f x : Addr)
  /-- a range object lo, lo + 1, .. below hi -/
  | rng (lo hi : Int)
  /-- a thing that is known to the object (the script; a dict while a loop walks it): read, never written while it is so -/
  | frz (o : Obj) (u : HO)
  /-- a code object's table -/
  | tbl (ps : Array Value)
  /-- any other thing, by what is true of its one object (a def of one's own: SetO a S n := HO.ext fun h => ..) -/
  | ext (φ : Heap → Prop)

noncomputable abbrev Hp := Addr → Option HO
noncomputable def upd (H : Hp) (a : Addr) (o : HO) : Hp := fun b => if b = a then some o else H b
theorem upd_same {H : Hp} {a : Addr} {o : HO} : upd H a o a = some o := by unfold upd; rw [if_pos rfl]
theorem upd_ne {H : Hp} {a b : Addr} {o : HO} (h : b ≠ a) : upd H a o b = H b := by unfold upd; rw [if_neg h]
theorem ne_of_none {H : Hp} {a b : Addr} {o : HO} (h : H a = some o) (h' : H b = none) : a ≠ b := by
  intro e; subst e; rw [h] at h'; cases h'

section
variable (P : Program) (w : World)
noncomputable def ObjOk (H : Hp) (h : Heap) (a : Addr) : HO → Prop
  | .lst xs => xs.length ≤ sizeLine ∧ ∃ (its : List Value) (n : Nat), Vals xs its ∧ h.get? a = some { cls := .type "list", data := .seq its.toArray n }
  | .tup xs => xs.length ≤ sizeLine ∧ ∃ its : List Value, Vals xs its ∧ IsTup h a its.toArray
  | .dK kvs => kvs.length ≤ sizeLine ∧ (a == sysModules) = false ∧ ∃ vs, KV kvs vs ∧ h.DictOf (mixKind P w) a vs
  | .dT kvs => kvs.length ≤ sizeLine ∧ (a == sysModules) = false ∧ ∃ xs : List (List Key × Addr × Value),
      Paired (fun (p : List Key × V) (q : List Key × Addr × Value) => p.1 = q.1 ∧ H q.2.1 = some (.tup (p.1.map kV)) ∧ RelV p.2 q.2.2) kvs xs ∧
      ∃ o es ep, h.get? a = some o ∧ o.ExactDict ∧ o.data = .dict es ep ∧ es.toList = xs.map (entryOfKey (tupleKind (mixKind P w))) ∧ (xs.map (·.1)).Nodup
  | .set S n => h.SetOf (intKind P w) a S n
  | .ins C dx fs => H dx = some (.own a) ∧ fs.length ≤ 1000 ∧ dx ≠ a ∧ h.get? a = some (PySem.W.instObj C dx) ∧
      ∃ mA, h.Ns1 dx mA ∧ (∀ f, RelO (fs.lookup f) (mA f)) ∧ PySem.Within mA (fs.map (·.1))
  | .own _ => ∃ o, h.get? a = some o
  | .xd fs => ∃ mA, h.Ns1 a mA ∧ ∀ f, RelO (fs.lookup f) (mA f)
  | .rng lo hi => ∃ t u v, h.get? a = some { cls := .type "range", data := .fields #[.int lo t, .int hi u, .int 1 v] }
  | .frz o u => h.get? a = some o ∧ ObjOk H h a u
  | .tbl ps => h.get? a = some { cls := .none, data := .fields ps }
  | .met f x => h.get? a = some (PySem.W.methodObj (.ref f) (.ref x))
  | .ext φ => φ h ∧ (∃ o, h.get? a = some o) ∧ ∀ h1 h2 : Heap, φ h1 → (∀ o, h1.get? a = some o → h2.get? a = some o) → φ h2
/-- the abstract heap is held -/
noncomputable def HOk (H : Hp) (h : Heap) : Prop := ∀ a o, H a = some o → ObjOk P w H h a o
end

section
variable {P : Program} {w : World} {H H' : Hp} {h h' : Heap} {a : Addr} {o : HO}
theorem ObjOk.lt (x : ObjOk P w H h a o) : a < h.objs.size := by
  cases o with
  | lst xs => obtain ⟨_, _, _, _, e⟩ := x; exact Heap.lt_size e
  | tup xs => obtain ⟨_, _, _, p⟩ := x; exact p.lt
  | dK kvs => obtain ⟨_, _, _, _, o, _, _, e, _⟩ := x; exact Heap.lt_size e
  | dT kvs => obtain ⟨_, _, _, _, o, _, _, e, _⟩ := x; exact Heap.lt_size e
  | set S n => obtain ⟨o, _, _, _, e, _⟩ := x; exact Heap.lt_size e
  | ins C dx fs => obtain ⟨_, _, _, e, _⟩ := x; exact Heap.lt_size e
  | own y => obtain ⟨_, e⟩ := x; exact Heap.lt_size e
  | xd fs => obtain ⟨_, ⟨_, _, _, e, _⟩, _⟩ := x; exact Heap.lt_size e
  | rng lo hi => obtain ⟨_, _, _, e⟩ := x; exact Heap.lt_size e
  | frz ob u => obtain ⟨e, _⟩ := x; exact Heap.lt_size e
  | tbl ps => exact Heap.lt_size (show h.get? a = some _ from x)
  | met f y => exact Heap.lt_size (show h.get? a = some _ from x)
  | ext φ => obtain ⟨_, ⟨_, e⟩, _⟩ := x; exact Heap.lt_size e
theorem Paired.mapP {α β : Type} {F G : α → β → Prop} : ∀ {l₁ : List α} {l₂ : List β}, Paired F l₁ l₂ → (∀ a b, F a b → G a b) → Paired G l₁ l₂
  | _, _, .nil, _ => .nil
  | _, _, .cons r t, f => .cons (f _ _ r) (Paired.mapP t f)
/-- what an object's description leans on: its own object, its own dict, the tuples -/
theorem ObjOk.stay (x : ObjOk P w H h a o) (k : ∀ b u, (b = a ∨ H b = some (.own a)) → h.get? b = some u → h'.get? b = some u)
    (ho : ∀ b, H b = some (.own a) → H' b = some (.own a)) (ht : ∀ b xs, H b = some (.tup xs) → H' b = some (.tup xs)) : ObjOk P w H' h' a o := by
  induction o with
  | lst xs => obtain ⟨z, its, n, r, e⟩ := x; exact ⟨z, its, n, r, k _ _ (.inl rfl) e⟩
  | tup xs => obtain ⟨z, its, r, ob, e, c⟩ := x; exact ⟨z, its, r, ob, k _ _ (.inl rfl) e, c⟩
  | dK kvs => obtain ⟨z, y, vs, r, ob, es, ep, e, c⟩ := x; exact ⟨z, y, vs, r, ob, es, ep, k _ _ (.inl rfl) e, c⟩
  | dT kvs =>
    obtain ⟨z, y, xs, r, ob, es, ep, e, c⟩ := x
    exact ⟨z, y, xs, Paired.mapP r fun p q z => ⟨z.1, ht _ _ z.2.1, z.2.2⟩, ob, es, ep, k _ _ (.inl rfl) e, c⟩
  | set S n => obtain ⟨ob, es, ep, t, e, c⟩ := x; exact ⟨ob, es, ep, t, k _ _ (.inl rfl) e, c⟩
  | ins C dx fs =>
    obtain ⟨d, z, ne, e, mA, ⟨od, es, ep, e2, c⟩, r⟩ := x
    exact ⟨ho _ d, z, ne, k _ _ (.inl rfl) e, mA, ⟨od, es, ep, k _ _ (.inr d) e2, c⟩, r⟩
  | own y => obtain ⟨ob, e⟩ := x; exact ⟨ob, k _ _ (.inl rfl) e⟩
  | xd fs => obtain ⟨mA, ⟨od, es, ep, e, c⟩, r⟩ := x; exact ⟨mA, ⟨od, es, ep, k _ _ (.inl rfl) e, c⟩, r⟩
  | rng lo hi => obtain ⟨t, u, v, e⟩ := x; exact ⟨t, u, v, k _ _ (.inl rfl) e⟩
  | frz ob u ih => obtain ⟨e, q⟩ := x; exact ⟨k _ _ (.inl rfl) e, ih q⟩
  | tbl ps =>
    have e : h.get? a = some { cls := .none, data := .fields ps } := x
    show h'.get? a = some { cls := .none, data := .fields ps }
    exact k a _ (.inl rfl) e
  | met f y =>
    have e : h.get? a = some (PySem.W.methodObj (.ref f) (.ref y)) := x
    show h'.get? a = some (PySem.W.methodObj (.ref f) (.ref y))
    exact k a _ (.inl rfl) e
  | ext φ => obtain ⟨p, ⟨o, e⟩, st⟩ := x; exact ⟨st _ _ p fun o q => k _ _ (.inl rfl) q, ⟨o, k _ _ (.inl rfl) e⟩, st⟩
theorem HOk.lt (x : HOk P w H h) (e : H a = some o) : a < h.objs.size := (x a o e).lt
theorem HOk.fresh (x : HOk P w H h) (e : h.objs.size ≤ a) : H a = none := by
  cases q : H a with
  | none => rfl
  | some u => exact absurd (Nat.lt_of_lt_of_le (x.lt q) e) (Nat.lt_irrefl _)
/-- every object of the heap is kept -/
theorem HOk.kept (x : HOk P w H h) (k : ∀ b u, h.get? b = some u → h'.get? b = some u) : HOk P w H h' := fun a o e =>
  (x a o e).stay (fun b u _ q => k b u q) (fun _ q => q) fun _ _ q => q
/-- a new object is laid and tracked -/
theorem HOk.laid (x : HOk P w H h) (k : ∀ b u, h.get? b = some u → h'.get? b = some u) (hp : h.objs.size ≤ a) (new : ObjOk P w (upd H a o) h' a o) : HOk P w (upd H a o) h' := fun b u e => by
  have hn := x.fresh hp
  by_cases hb : b = a
  · subst hb; rw [upd_same] at e; cases e; exact new
  · rw [upd_ne hb] at e
    exact (x b u e).stay (fun c v _ q => k c v q) (fun c q => by rw [upd_ne (ne_of_none q hn)]; exact q) fun c xs q => by rw [upd_ne (ne_of_none q hn)]; exact q
end

/-- what may be read as u: it is u, or a known u -/
noncomputable def Rd (H : Hp) (a : Addr) (u : HO) : Prop := H a = some u ∨ ∃ o, H a = some (.frz o u)
theorem Rd.of {H : Hp} {a : Addr} {u : HO} (h : H a = some u) : Rd H a u := .inl h
theorem Rd.ok {P : Program} {w : World} {H : Hp} {h : Heap} {a : Addr} {u : HO} (r : Rd H a u) (x : HOk P w H h) : ObjOk P w H h a u := by
  rcases r with r | ⟨o, r⟩
  · exact x a u r
  · obtain ⟨_, q⟩ := x a _ r
    exact q
/-- what may be written -/
noncomputable def Mut : Option HO → Prop
  | some (.lst _) => True
  | some (.dK _) => True
  | some (.dT _) => True
  | some (.set _ _) => True
  | some (.ins _ _ _) => True
  | some (.ext _) => True
  | _ => False
section
variable {P : Program} {w : World} {H : Hp} {h h' : Heap} {x e : Addr} {o' : HO}
/-- the object at e is changed: x itself, or the dict of the instance x -/
theorem HOk.write (ok : HOk P w H h) (mu : Mut (H x)) (he : e = x ∨ H e = some (.own x)) (k : ∀ b u, b ≠ e → h.get? b = some u → h'.get? b = some u) (heo : ∃ u, h'.get? e = some u)
    (new : ObjOk P w (upd H x o') h' x o') : HOk P w (upd H x o') h' := fun b u q => by
  have nown : ∀ c y, H c = some (.own y) → c ≠ x := fun c y r z => by subst z; rw [r] at mu; exact mu
  have ntup : ∀ c xs, H c = some (.tup xs) → c ≠ x := fun c xs r z => by subst z; rw [r] at mu; exact mu
  by_cases hb : b = x
  · subst hb; rw [upd_same] at q; cases q; exact new
  · rw [upd_ne hb] at q
    by_cases hbe : b = e
    · have q' : H b = some (.own x) := by
        rcases he with z | z
        · exact absurd (hbe.trans z) hb
        · rw [hbe]; exact z
      rw [q] at q'; cases q'
      obtain ⟨v, hv⟩ := heo
      exact ⟨v, by rw [hbe]; exact hv⟩
    · refine (ok b u q).stay (fun c v hc r => k c v ?_ r) (fun c r => by rw [upd_ne (nown c b r)]; exact r) fun c xs r => by rw [upd_ne (ntup c xs r)]; exact r
      rcases hc with rfl | hc
      · exact hbe
      · rintro rfl
        rcases he with z | z
        · exact nown c b hc z
        · rw [hc] at z; cases z; exact hb rfl
end

/-! ### kept unless tracked; of the frames at fs (the callers') the slots may change (an exception that passes writes there); of the records at ex (iterators) nothing is said -/
structure Un (fs ex : List Addr) (H H' : Hp) (h h' : Heap) : Prop where
  keep : ∀ b o, h.get? b = some o → H b = none → b ∉ fs → b ∉ ex → h'.get? b = some o
  slot : ∀ b o, h.get? b = some o → H b = none → b ∈ fs → b ∉ ex → ∃ sl, h'.get? b = some { o with slots := sl }
  free : ∀ b o, h.get? b = some o → H b = none → b ∉ ex → H' b = none
  there : ∀ b o, h.get? b = some o → b ∉ ex → ∃ o', h'.get? b = some o'
  tups : ∀ b xs, H b = some (.tup xs) → H' b = some (.tup xs)
  frzs : ∀ b o u, H b = some (.frz o u) → H' b = some (.frz o u)
  tbls : ∀ b ps, H b = some (.tbl ps) → ∃ more, H' b = some (.tbl (ps ++ more))
section
variable {fs fs' ex ex' : List Addr} {H H1 H2 : Hp} {h h1 h2 h' : Heap} {a x e : Addr} {o : HO}
theorem Un.any (u : Un fs ex H H1 h h1) {b : Addr} {ob : Obj} (q : h.get? b = some ob) (n : H b = none) (hx : b ∉ ex) : ∃ sl, h1.get? b = some { ob with slots := sl } := by
  by_cases hb : b ∈ fs
  · exact u.slot b ob q n hb hx
  · exact ⟨ob.slots, u.keep b ob q n hb hx⟩
theorem Un.trans (a : Un fs ex H H1 h h1) (b : Un fs ex H1 H2 h1 h2) : Un fs ex H H2 h h2 where
  keep := fun c ob q n hc hx => b.keep c ob (a.keep c ob q n hc hx) (a.free c ob q n hx) hc hx
  slot := fun c ob q n hc hx => by
    obtain ⟨sl, e1⟩ := a.slot c ob q n hc hx
    obtain ⟨sl', e2⟩ := b.slot c _ e1 (a.free c ob q n hx) hc hx
    exact ⟨sl', e2⟩
  free := fun c ob q n hx => by
    obtain ⟨o', e1⟩ := a.there c ob q hx
    exact b.free c o' e1 (a.free c ob q n hx) hx
  there := fun c ob q hx => by
    obtain ⟨o', e1⟩ := a.there c ob q hx
    exact b.there c o' e1 hx
  tups := fun c xs q => b.tups c xs (a.tups c xs q)
  frzs := fun c ob xs q => b.frzs c ob xs (a.frzs c ob xs q)
  tbls := fun c ps q => by
    obtain ⟨m1, e1⟩ := a.tbls c ps q
    obtain ⟨m2, e2⟩ := b.tbls c _ e1
    exact ⟨m1 ++ m2, by rw [e2, Array.append_assoc]⟩
theorem Un.kept (k : ∀ b u, h.get? b = some u → h'.get? b = some u) : Un fs ex H H h h' :=
  ⟨fun b ob q _ _ _ => k b ob q, fun b ob q _ _ _ => ⟨ob.slots, k b ob q⟩, fun _ _ _ n _ => n, fun b ob q _ => ⟨ob, k b ob q⟩, fun _ _ q => q, fun _ _ _ q => q, fun _ ps q => ⟨#[], by rw [q]; simp⟩⟩
theorem Un.refl : Un fs ex H H h h := Un.kept fun _ _ q => q
theorem Un.laid (k : ∀ b u, h.get? b = some u → h'.get? b = some u) (hp : h.objs.size ≤ a) (hn : H a = none) : Un fs ex H (upd H a o) h h' where
  keep := fun b u q _ _ _ => k b u q
  slot := fun b u q _ _ _ => ⟨u.slots, k b u q⟩
  free := fun b u q n _ => by rw [upd_ne (Nat.ne_of_lt (Nat.lt_of_lt_of_le (Heap.lt_size q) hp))]; exact n
  there := fun b u q _ => ⟨u, k b u q⟩
  tups := fun b xs q => by rw [upd_ne (ne_of_none q hn)]; exact q
  frzs := fun b u xs q => by rw [upd_ne (ne_of_none q hn)]; exact q
  tbls := fun b ps q => ⟨#[], by rw [upd_ne (ne_of_none q hn), q]; simp⟩
theorem Un.write (mu : Mut (H x)) (he : e = x ∨ H e = some (.own x)) (k : ∀ b u, b ≠ e → h.get? b = some u → h'.get? b = some u) (heo : ∃ u, h'.get? e = some u) : Un fs ex H (upd H x o) h h' := by
  have hx : ∀ b, H b = none → b ≠ x := fun b n z => by subst z; rw [n] at mu; exact mu
  have hb : ∀ b, H b = none → b ≠ e := fun b n z => by
    subst z
    rcases he with r | r
    · exact hx b n r
    · rw [n] at r; cases r
  have hm : ∀ b u, H b = some u → ¬ Mut (some u) → b ≠ x := fun b u q nm z => by subst z; rw [q] at mu; exact nm mu
  refine ⟨fun b u q n _ _ => k b u (hb b n) q, fun b u q n _ _ => ⟨u.slots, k b u (hb b n) q⟩, fun b u q n _ => by rw [upd_ne (hx b n)]; exact n, fun b u q _ => ?_,
    fun b xs q => by rw [upd_ne (hm b _ q fun z => z)]; exact q, fun b u xs q => by rw [upd_ne (hm b _ q fun z => z)]; exact q, fun b ps q => ⟨#[], by rw [upd_ne (hm b _ q fun z => z), q]; simp⟩⟩
  by_cases hbe : b = e
  · subst hbe; exact heo
  · exact ⟨u, k b u hbe q⟩
end

/-! ### the heap without what is tracked -/
noncomputable def trk (h : Heap) (H : Hp) : List Addr := (List.range h.objs.size).filter fun a => (H a).isSome
noncomputable def hidT (h : Heap) (H : Hp) : Heap := PySem.W.hideAll h (trk h H)
theorem hidT_size (h : Heap) (H : Hp) : (hidT h H).objs.size = h.objs.size := PySem.W.hideAll_size _ _
theorem hidT_get {h : Heap} {H : Hp} {b : Addr} {o : Obj} (e : h.get? b = some o) (n : H b = none) : (hidT h H).get? b = some o :=
  PySem.W.hideAll_get _ e fun hm => by
    have q : (H b).isSome = true := (List.mem_filter.mp hm).2
    rw [n] at q; simp at q
theorem of_hidT {h : Heap} {H : Hp} {b : Addr} {o : Obj} (e : (hidT h H).get? b = some o) : h.get? b = some o ∧ H b = none := by
  have e' : h.get? b = some o := PySem.W.of_hideAll (trk h H) e
  refine ⟨e', ?_⟩
  cases q : H b with
  | none => rfl
  | some x =>
    have hm : b ∈ trk h H := List.mem_filter.mpr ⟨List.mem_range.mpr (Heap.lt_size e'), by simp [q]⟩
    have z : (hidT h H).get? b = none := PySem.W.hideAll_none (trk h H) hm
    rw [z] at e; cases e

/-! ### OpenK's ledger, filled with every new object but one -/
end L2

namespace L2
open PySem PySem.Spec PyProof.Rows

/-- the module's facts, over the base: the heap at the law's entry without what is tracked there -/
structure Mod (K : PySem.W.Frag) (mg : Str → Option Value) (base : Heap) : Prop where
  kin : K.In base
  glob : base.Ns mainGlobals mg
  blt : ∃ mb, base.Ns builtinsNs mb ∧ ∀ x : Str, x ≠ "__name__" → mb x = bootBuiltins x
  nolimit : base.NoLimit

/-- the context: a def's body (or a comprehension's block) running. base: fixed through the whole law; s₀, H₀: the entry; outer: the frames whose slots others may change (a def's callers); stack: all frames that run;
   ex: iterators that were made ahead of the entry and are walked here (a comprehension's); fn: the names whose cells were made at the entry (a def: all; a comprehension's block: its own); calm: not within an except suite; pn: pins that every state bears; xe: what is wanted of an exception that leaves the code -/
structure Cx where
  prog : Program
  w : World
  K : PySem.W.Frag
  mg : Str → Option Value
  base : Heap
  A : Around
  N : List Str
  s₀ : Shared
  H₀ : Hp
  env : Env
  outer : List Env
  stack : List Env
  ex : List Addr
  fn : Str → Bool
  calm : Bool
  pn : List (Addr × Obj)
  xe : Value → Shared → Prop
/-- the callers' frames -/
noncomputable def frs (l : List Env) : List Addr := l.filterMap (·.frame)
noncomputable abbrev Cx.fs (X : Cx) : List Addr := frs X.outer

noncomputable def Vis (sc : Scope) (x : Str) : Prop := sc.names.lookup x = some .local ∨ sc.names.lookup x = some .cell ∨ sc.names.lookup x = some .free
noncomputable def Loc (sc : Scope) (x : Str) : Prop := sc.names.lookup x = some .local ∨ sc.names.lookup x = some .cell
noncomputable def Look (env : Env) (h : Heap) (m : Str → Option Value) (x : Str) (u : Value) : Prop :=
  (env.kindOf x = some .local ∧ m x = some u) ∨ ((env.kindOf x = some .cell ∨ env.kindOf x = some .free) ∧ ∃ c, env.cells.lookup x = some c ∧ h.IsCell c (some u))

structure Cx.Ok (X : Cx) : Prop where
  mod : Mod X.K X.mg X.base
  kind : X.env.scope.kind = .function
  glob : X.env.globals = mainGlobals
  blt : X.env.builtins = builtinsNs
  above : X.s₀.heap.objs.size ≤ X.env.locals
  inj : ∀ x y c, X.env.cells.lookup x = some c → X.env.cells.lookup y = some c → x = y
  has : ∀ x, (X.env.kindOf x = some .cell ∨ X.env.kindOf x = some .free) → ∃ c, X.env.cells.lookup x = some c
  cab : ∀ x c, X.fn x = true → X.env.cells.lookup x = some c → X.s₀.heap.objs.size ≤ c
  hd : X.calm = true → X.A.handled = none
  frames : X.A.frames = some X.stack
  stk : X.stack = X.outer ∨ (X.stack = X.env :: X.outer ∧ X.env.frame = some X.env.locals)
  exf : ∀ b ∈ X.ex, b ≠ X.env.locals ∧ ∀ x c, X.env.cells.lookup x = some c → c ≠ b
  bs : ∀ b o, X.base.get? b = some o → X.s₀.heap.get? b = some o ∧ X.H₀ b = none
  bsz : X.base.objs.size ≤ X.s₀.heap.objs.size
  noex : ∀ b o, X.base.get? b = some o → b ∉ X.ex
  exfs : ∀ b ∈ X.ex, b ∉ X.fs
  funs : X.s₀.heap.FunFrames X.base X.outer
  frf : ∀ b ∈ X.fs, X.H₀ b = none

structure Inv (X : Cx) (pins : List (Addr × Obj)) (σ : List (Option V)) (H : Hp) (s : Shared) : Prop where
  ok : X.Ok
  os : s.os = X.s₀.os
  bare : AllBare s.gens
  base : Un X.fs X.ex X.H₀ H X.s₀.heap s.heap
  loc : ∃ m, s.heap.Ns X.env.locals m ∧ ∀ (i : Nat) (x : Str) (v : V), X.N[i]? = some x → σ[i]? = some (some v) → Vis X.env.scope x → ∃ u, RelV v u ∧ Look X.env s.heap m x u
  cell : ∀ x c, X.env.cells.lookup x = some c → ∃ v, s.heap.IsCell c v
  free : H X.env.locals = none
  freeC : ∀ x c, X.env.cells.lookup x = some c → H c = none
  pin : ∀ p ∈ X.pn ++ pins, s.heap.get? p.1 = some p.2 ∧ H p.1 = none ∧ p.1 ≠ X.env.locals ∧ p.1 ∉ X.fs ∧ ∀ v, p.2.data ≠ .cell v
  hok : HOk X.prog X.w H s.heap
  len : σ.length = X.N.length

section
variable {X : Cx} {pins : List (Addr × Obj)} {σ : List (Option V)} {H H' : Hp} {s : Shared} {h' : Heap}

theorem Cx.Ok.nofr (ok : X.Ok) {b : Addr} {o : Obj} (e : X.base.get? b = some o) : b ∉ X.fs := fun hb => by
  have := (ok.funs.mem hb).1
  rw [e] at this; cases this
theorem Inv.bs (I : Inv X pins σ H s) : ∀ b o, X.base.get? b = some o → s.heap.get? b = some o ∧ H b = none := fun b o e =>
  ⟨I.base.keep b o (I.ok.bs b o e).1 (I.ok.bs b o e).2 (I.ok.nofr e) (I.ok.noex b o e), I.base.free b o (I.ok.bs b o e).1 (I.ok.bs b o e).2 (I.ok.noex b o e)⟩
theorem Inv.bk (I : Inv X pins σ H s) : ∀ b o, X.base.get? b = some o → s.heap.get? b = some o := fun b o e => (I.bs b o e).1
theorem Inv.mod (I : Inv X pins σ H s) : Mod X.K X.mg X.base := I.ok.mod
theorem Inv.kIn (I : Inv X pins σ H s) : X.K.In s.heap := I.ok.mod.kin.keeps I.bk
/-- the frame over the base: for OpenK's rules (K.In X.base is I.mod.kin) -/
theorem Inv.fr (I : Inv X pins σ H s) : ∃ m, Fr X.base X.env.locals s.heap m :=
  let ⟨m, hn, _⟩ := I.loc
  ⟨m, hn, I.bk, Nat.le_trans I.ok.bsz I.ok.above⟩
theorem Inv.lt (I : Inv X pins σ H s) : X.env.locals < s.heap.objs.size := let ⟨_, hn, _⟩ := I.loc; hn.lt
theorem Inv.sz (I : Inv X pins σ H s) : X.s₀.heap.objs.size ≤ s.heap.objs.size := Nat.le_trans I.ok.above (Nat.le_of_lt I.lt)
theorem Inv.nofs (I : Inv X pins σ H s) {a : Addr} (h : s.heap.objs.size ≤ a) : a ∉ X.fs := fun hb => by
  obtain ⟨_, o, ho, _⟩ := I.ok.funs.mem hb
  exact absurd (Nat.lt_of_lt_of_le (Heap.lt_size ho) (Nat.le_trans I.sz h)) (Nat.lt_irrefl _)
theorem Inv.cne (I : Inv X pins σ H s) : ∀ x c, X.env.cells.lookup x = some c → c ≠ X.env.locals := fun x c e z => by
  obtain ⟨v, o, ho, hd⟩ := I.cell x c e
  obtain ⟨m, ⟨o', es, ep, ho', hd', _⟩, _⟩ := I.loc
  rw [z, ho'] at ho; cases ho; rw [hd'] at hd; cases hd
theorem Inv.funs (I : Inv X pins σ H s) : s.heap.FunFrames X.base X.outer := by
  have all : ∀ (l : List Env), (∀ b ∈ frs l, b ∈ X.fs) → X.s₀.heap.FunFrames X.base l → s.heap.FunFrames X.base l := by
    intro l
    induction l with
    | nil => intro _ _; trivial
    | cons env r ih =>
      intro hs hl
      obtain ⟨hk, ⟨L, o, hf, hn, ho, hd⟩, hr⟩ := hl
      have hL : L ∈ X.fs := hs L (by unfold frs; rw [List.filterMap_cons, hf]; exact List.mem_cons_self)
      obtain ⟨sl, e⟩ := I.base.slot L o ho (I.ok.frf L hL) hL fun z => I.ok.exfs L z hL
      exact ⟨hk, ⟨L, _, hf, hn, e, hd⟩, ih (fun b hb => hs b (by unfold frs; rw [List.filterMap_cons, hf]; exact List.mem_cons_of_mem _ hb)) hr⟩
  exact all X.outer (fun _ hb => hb) I.ok.funs

/-- the frames that run, for a call -/
theorem Inv.stack (I : Inv X pins σ H s) : s.heap.FunFrames X.base X.stack := by
  rcases I.ok.stk with e | ⟨e, hf⟩
  · rw [e]; exact I.funs
  · rw [e]
    obtain ⟨m, hn, _⟩ := I.loc
    refine .cons (by rw [I.ok.kind]; decide) hf hn ?_ I.funs
    exact Heap.get?_none_of_le (Nat.le_trans I.ok.bsz I.ok.above)
theorem Inv.stkSub (I : Inv X pins σ H s) : ∀ b ∈ frs X.stack, b ∈ X.env.locals :: X.fs := fun b hb => by
  rcases I.ok.stk with e | ⟨e, hf⟩
  · rw [e] at hb; exact List.mem_cons_of_mem _ hb
  · rw [e] at hb
    unfold frs at hb
    rw [List.filterMap_cons, hf] at hb
    exact hb
theorem Inv.stkFree (I : Inv X pins σ H s) : ∀ b ∈ frs X.stack, H b = none := fun b hb => by
  rcases List.mem_cons.mp (I.stkSub b hb) with e | hb
  · rw [e]; exact I.free
  · obtain ⟨_, o, ho, _⟩ := I.ok.funs.mem hb
    exact I.base.free b o ho (I.ok.frf b hb) fun z => I.ok.exfs b z hb

/-- THE STEP: the untracked objects but the frame and the records at ch are kept (the callers' frames up to slots), the frame's map is kept, the new abstract heap is held -/
theorem Inv.step {g' : Array GenState} {t' : Nat} {d' : Drawn} {ch : List Addr} (I : Inv X pins σ H s)
    (hch : ∀ b ∈ ch, (b ∈ X.ex ∨ X.s₀.heap.objs.size ≤ b) ∧ b ≠ X.env.locals ∧ (∀ x c, X.env.cells.lookup x = some c → c ≠ b) ∧ ∀ p ∈ X.pn ++ pins, p.1 ≠ b)
    (keep : ∀ b o, b ≠ X.env.locals → b ∉ X.fs → b ∉ ch → s.heap.get? b = some o → H b = none → h'.get? b = some o)
    (slot : ∀ b o, b ≠ X.env.locals → b ∈ X.fs → b ∉ ch → s.heap.get? b = some o → H b = none → ∃ sl, h'.get? b = some { o with slots := sl }) (free : ∀ b o, b ∉ ch → s.heap.get? b = some o → H b = none → H' b = none)
    (there : ∀ b o, b ∉ ch → s.heap.get? b = some o → ∃ o', h'.get? b = some o')
    (tups : ∀ b xs, H b = some (.tup xs) → H' b = some (.tup xs)) (frzs : ∀ b o u, H b = some (.frz o u) → H' b = some (.frz o u)) (tbls : ∀ b ps, H b = some (.tbl ps) → ∃ more, H' b = some (.tbl (ps ++ more)))
    (ns : ∀ m, s.heap.Ns X.env.locals m → h'.Ns X.env.locals m) (hok : HOk X.prog X.w H' h') (hg : AllBare g') :
    Inv X pins σ H' { s with heap := h', gens := g', drawn := d', toks := t' } := by
  have neL : ∀ b o, X.s₀.heap.get? b = some o → b ≠ X.env.locals := fun b o e => Nat.ne_of_lt (Nat.lt_of_lt_of_le (Heap.lt_size e) I.ok.above)
  have neC : ∀ b o, X.s₀.heap.get? b = some o → b ∉ X.ex → b ∉ ch := fun b o e hx hb => by
    rcases (hch b hb).1 with z | z
    · exact hx z
    · exact absurd (Nat.lt_of_lt_of_le (Heap.lt_size e) z) (Nat.lt_irrefl _)
  have cellK : ∀ x c, X.env.cells.lookup x = some c → ∀ v, s.heap.IsCell c v → h'.IsCell c v := fun x c e v ⟨o, ho, hd⟩ => by
    have nch : c ∉ ch := fun z => (hch c z).2.2.1 x c e rfl
    by_cases hc : c ∈ X.fs
    · obtain ⟨sl, q⟩ := slot c o (I.cne x c e) hc nch ho (I.freeC x c e)
      exact ⟨_, q, hd⟩
    · exact ⟨o, keep c o (I.cne x c e) hc nch ho (I.freeC x c e), hd⟩
  refine ⟨I.ok, I.os, hg, ⟨fun b o e n hb hx => ?_, fun b o e n hb hx => ?_, fun b o e n hx => ?_, fun b o e hx => ?_, fun b xs e => tups b xs (I.base.tups b xs e), fun b o xs e => frzs b o xs (I.base.frzs b o xs e), fun b ps e => ?_⟩, ?_, fun x c e => ?_, ?_, fun x c e => ?_, fun p hp => ?_, hok, I.len⟩
  · exact keep b o (neL b o e) hb (neC b o e hx) (I.base.keep b o e n hb hx) (I.base.free b o e n hx)
  · obtain ⟨sl, e1⟩ := I.base.slot b o e n hb hx
    obtain ⟨sl', e2⟩ := slot b _ (neL b o e) hb (neC b o e hx) e1 (I.base.free b o e n hx)
    exact ⟨sl', e2⟩
  · obtain ⟨o', e1⟩ := I.base.there b o e hx
    exact free b o' (neC b o e hx) e1 (I.base.free b o e n hx)
  · obtain ⟨o', e1⟩ := I.base.there b o e hx
    exact there b o' (neC b o e hx) e1
  · obtain ⟨m1, e1⟩ := I.base.tbls b ps e
    obtain ⟨m2, e2⟩ := tbls b _ e1
    exact ⟨m1 ++ m2, by rw [e2, Array.append_assoc]⟩
  · obtain ⟨m, hn, hl⟩ := I.loc
    refine ⟨m, ns m hn, fun i x v e1 e2 e3 => ?_⟩
    obtain ⟨u, r, l⟩ := hl i x v e1 e2 e3
    refine ⟨u, r, ?_⟩
    rcases l with l | ⟨k, c, e, z⟩
    · exact .inl l
    · exact .inr ⟨k, c, e, cellK x c e _ z⟩
  · obtain ⟨v, z⟩ := I.cell x c e
    exact ⟨v, cellK x c e v z⟩
  · obtain ⟨m, ⟨o, _, _, ho, _⟩, _⟩ := I.loc
    exact free _ o (fun z => (hch _ z).2.1 rfl) ho I.free
  · obtain ⟨v, o, ho, hd⟩ := I.cell x c e
    exact free c o (fun z => (hch c z).2.2.1 x c e rfl) ho (I.freeC x c e)
  · obtain ⟨e, n, ne, nf, d⟩ := I.pin p hp
    have nch : p.1 ∉ ch := fun z => (hch p.1 z).2.2.2 p hp rfl
    exact ⟨keep p.1 p.2 ne nf nch e n, free p.1 p.2 nch e n, ne, nf, d⟩
/-- .. where the frame's own object is kept too -/
theorem Inv.un {t' : Nat} (I : Inv X pins σ H s) (u : Un X.fs [] H H' s.heap h') (hok : HOk X.prog X.w H' h') : Inv X pins σ H' { s with heap := h', toks := t' } := by
  obtain ⟨m, ⟨o, es, ep, ho, r⟩, _⟩ := id I.loc
  obtain ⟨sl, hL⟩ := u.any ho I.free (by simp)
  exact I.step (g' := s.gens) (d' := s.drawn) (ch := []) (fun _ z => nomatch z) (fun b o _ hb _ e n => u.keep b o e n hb (by simp)) (fun b o _ hb _ e n => u.slot b o e n hb (by simp)) (fun b o _ e n => u.free b o e n (by simp)) (fun b o _ e => u.there b o e (by simp)) u.tups u.frzs u.tbls (fun m' hm => by
    obtain ⟨o', es', ep', ho', r'⟩ := hm
    rw [ho] at ho'; cases ho'
    exact ⟨_, es', ep', hL, r'⟩) hok I.bare
/-- behind a call (or a comprehension's block): the slots of this frame may have changed too, the records at ch may have turned -/
theorem Inv.call {g' : Array GenState} {t' : Nat} {d' : Drawn} {ch : List Addr} (I : Inv X pins σ H s) (u : Un (frs X.stack) ch H H' s.heap h') (hok : HOk X.prog X.w H' h') (hg : AllBare g')
    (hch : ∀ b ∈ ch, (b ∈ X.ex ∨ X.s₀.heap.objs.size ≤ b) ∧ b ≠ X.env.locals ∧ (∀ x c, X.env.cells.lookup x = some c → c ≠ b) ∧ ∀ p ∈ X.pn ++ pins, p.1 ≠ b) :
    Inv X pins σ H' { s with heap := h', gens := g', drawn := d', toks := t' } := by
  obtain ⟨m, ⟨o, es, ep, ho, r⟩, _⟩ := id I.loc
  obtain ⟨sl, hL⟩ := u.any ho I.free fun z => (hch _ z).2.1 rfl
  exact I.step (ch := ch) hch (fun b o hL hb hc e n => u.keep b o e n (fun z => (List.mem_cons.mp (I.stkSub b z)).elim hL hb) hc) (fun b o _ _ hc e n => u.any e n hc) (fun b o hc e n => u.free b o e n hc) (fun b o hc e => u.there b o e hc) u.tups u.frzs u.tbls (fun m' hm => by
    obtain ⟨o', es', ep', ho', r'⟩ := hm
    rw [ho] at ho'; cases ho'
    exact ⟨_, es', ep', hL, r'⟩) hok hg
/-- an untracked record of ours (an iterator) has turned -/
theorem Inv.turned {t' : Nat} {it : Addr} (I : Inv X pins σ H s) (k : ∀ b o, b ≠ it → s.heap.get? b = some o → h'.get? b = some o) (hn : H it = none) (hL : it ≠ X.env.locals)
    (h1 : it ∈ X.ex ∨ X.s₀.heap.objs.size ≤ it) (h2 : ∀ x c, X.env.cells.lookup x = some c → c ≠ it) (h3 : ∀ p ∈ X.pn ++ pins, p.1 ≠ it) : Inv X pins σ H { s with heap := h', toks := t' } := by
  have nit : ∀ b u, H b = some u → b ≠ it := fun b u e z => by rw [z, hn] at e; cases e
  refine I.step (g' := s.gens) (d' := s.drawn) (ch := [it]) (fun b hb => ?_) (fun b o _ _ hc e _ => k b o (fun z => hc (by simp [z])) e) (fun b o _ _ hc e _ => ⟨o.slots, k b o (fun z => hc (by simp [z])) e⟩) (fun _ _ _ _ n => n)
    (fun b o hc e => ⟨o, k b o (fun z => hc (by simp [z])) e⟩) (fun _ _ e => e) (fun _ _ _ e => e) (fun b ps e => ⟨#[], by rw [e]; simp⟩) (fun m hm => ?_) (fun b u e => ?_) I.bare
  · have e : b = it := by simpa using hb
    subst e
    exact ⟨h1, hL, h2, h3⟩
  · obtain ⟨o, es, ep, ho, r⟩ := hm
    exact ⟨o, es, ep, k _ o (Ne.symm hL) ho, r⟩
  · refine (I.hok b u e).stay (fun c v hc q => k c v ?_ q) (fun _ q => q) fun _ _ q => q
    rcases hc with z | z
    · rw [z]; exact nit b u e
    · exact nit c _ z
theorem Inv.tok (I : Inv X pins σ H s) (t : Nat) : Inv X pins σ H { s with toks := t } := I.un (h' := s.heap) (t' := t) Un.refl I.hok
/-- all objects kept -/
theorem Inv.kept {t' : Nat} (I : Inv X pins σ H s) (k : ∀ b u, s.heap.get? b = some u → h'.get? b = some u) : Inv X pins σ H { s with heap := h', toks := t' } := I.un (Un.kept k) (I.hok.kept k)
/-- a new object laid and tracked -/
theorem Inv.laid {a : Addr} {o : HO} {t' : Nat} (I : Inv X pins σ H s) (k : ∀ b u, s.heap.get? b = some u → h'.get? b = some u) (hp : s.heap.objs.size ≤ a) (new : ObjOk X.prog X.w (upd H a o) h' a o) :
    Inv X pins σ (upd H a o) { s with heap := h', toks := t' } := I.un (Un.laid k hp (I.hok.fresh hp)) (I.hok.laid k hp new)
/-- an object written -/
theorem Inv.write {x e : Addr} {o : HO} {t' : Nat} (I : Inv X pins σ H s) (mu : Mut (H x)) (he : e = x ∨ H e = some (.own x)) (k : ∀ b u, b ≠ e → s.heap.get? b = some u → h'.get? b = some u) (heo : ∃ u, h'.get? e = some u)
    (new : ObjOk X.prog X.w (upd H x o) h' x o) : Inv X pins σ (upd H x o) { s with heap := h', toks := t' } := I.un (Un.write mu he k heo) (I.hok.write mu he k heo new)
theorem Inv.pins_of {pins' : List (Addr × Obj)} (I : Inv X pins σ H s) (h : ∀ p ∈ pins', s.heap.get? p.1 = some p.2 ∧ H p.1 = none ∧ p.1 ≠ X.env.locals ∧ p.1 ∉ X.fs ∧ ∀ v, p.2.data ≠ .cell v) : Inv X pins' σ H s :=
  ⟨I.ok, I.os, I.bare, I.base, I.loc, I.cell, I.free, I.freeC, fun p hp => (List.mem_append.mp hp).elim (fun z => I.pin p (List.mem_append_left _ z)) (h p), I.hok, I.len⟩

theorem nodup_ix {N : List Str} (hN : N.Nodup) {i j : Nat} {x : Str} (a : N[i]? = some x) (b : N[j]? = some x) : i = j := by
  obtain ⟨h1, e1⟩ := List.getElem?_eq_some_iff.mp a
  obtain ⟨h2, e2⟩ := List.getElem?_eq_some_iff.mp b
  exact (List.getElem_inj hN).mp (e1.trans e2.symm)

/-- a name is stored; what changed -/
theorem store_ok2 {M : Model} {A : Around} {E : Value → Shared → Prop} {i : Nat} {x : Str} {v : V} {u : Value} {Q : Unit → Shared → Prop} (I : Inv X pins σ H s) (hN : X.N.Nodup) (hi : X.N[i]? = some x) (hx : Loc X.env.scope x) (r : RelV v u)
    (h : ∀ s', Inv X pins (σ.set i (some v)) H s' → (∃ a, Heap.SameBut a s.heap s'.heap ∧ (a = X.env.locals ∨ X.env.cells.lookup x = some a)) → Q () s') (hf : X.fn x = true ∨ X.env.scope.names.lookup x = some .local := by first | exact .inl rfl | exact .inr rfl | assumption) : wpAny M A (storeName X.env x u) Q E s := by
  obtain ⟨m, hn, hl⟩ := id I.loc
  have hcls : (X.env.scope.kind == .class || (X.env.scope.kind == .module && X.env.locals != X.env.globals)) = false := by rw [I.ok.kind]; rfl
  have hiσ : i < σ.length := by rw [I.len]; exact (List.getElem?_eq_some_iff.mp hi).1
  have cne := I.cne
  have tracked : ∀ {a : Addr} {h' : Heap}, (∃ o, s.heap.get? a = some o ∧ H a = none) → Heap.SameBut a s.heap h' → HOk X.prog X.w H h' := fun {a h'} ha hs b ob e => by
    obtain ⟨_, _, hfree⟩ := ha
    refine (I.hok b ob e).stay (fun c w' hc q => (hs.2 c ?_).trans q) (fun _ q => q) fun _ _ q => q
    rintro rfl
    rcases hc with rfl | hc
    · rw [hfree] at e; cases e
    · rw [hfree] at hc; cases hc
  rcases hx with hk | hk
  · refine wpAny_storeName_local hk hn (fun h' hn' hs => ?_) hcls
    obtain ⟨oL, _, _, hoL, _⟩ := id hn
    refine h _ ⟨I.ok, I.os, I.bare, ⟨fun b o e n hb hx => ?_, fun b o e n hb hx => ?_, I.base.free, fun b o e hx => ?_, I.base.tups, I.base.frzs, I.base.tbls⟩, ⟨_, hn', fun j y v' e1 e2 e3 => ?_⟩, fun y c e => ?_, I.free, I.freeC, fun p hp => ?_, tracked ⟨oL, hoL, I.free⟩ hs, by simpa using I.len⟩ ⟨_, hs, .inl rfl⟩
    · exact (hs.2 b (Nat.ne_of_lt (Nat.lt_of_lt_of_le (Heap.lt_size e) I.ok.above))).trans (I.base.keep b o e n hb hx)
    · obtain ⟨sl, e1⟩ := I.base.slot b o e n hb hx
      exact ⟨sl, (hs.2 b (Nat.ne_of_lt (Nat.lt_of_lt_of_le (Heap.lt_size e) I.ok.above))).trans e1⟩
    · obtain ⟨o', e1⟩ := I.base.there b o e hx
      exact ⟨o', (hs.2 b (Nat.ne_of_lt (Nat.lt_of_lt_of_le (Heap.lt_size e) I.ok.above))).trans e1⟩
    · by_cases hj : j = i
      · subst hj
        rw [hi] at e1; cases e1
        rw [List.getElem?_set_self hiσ] at e2
        cases e2
        exact ⟨u, r, .inl ⟨hk, by simp⟩⟩
      · rw [List.getElem?_set_ne (Ne.symm hj)] at e2
        obtain ⟨u', r', q⟩ := hl j y v' e1 e2 e3
        refine ⟨u', r', ?_⟩
        rcases q with ⟨k, e⟩ | ⟨k, c, e, z⟩
        · refine .inl ⟨k, ?_⟩
          have : y ≠ x := fun e => hj (nodup_ix hN e1 (e ▸ hi))
          simp [this, e]
        · exact .inr ⟨k, c, e, z.sameBut hs (cne y c e)⟩
    · obtain ⟨w', z⟩ := I.cell y c e
      exact ⟨w', z.sameBut hs (cne y c e)⟩
    · obtain ⟨e, n, ne, nf, d⟩ := I.pin p hp
      exact ⟨(hs.2 p.1 ne).trans e, n, ne, nf, d⟩
  · have hfn : X.fn x = true := by
      rcases hf with z | z
      · exact z
      · rw [z] at hk; cases hk
    obtain ⟨c, hc⟩ := I.ok.has x (.inl hk)
    obtain ⟨w', z⟩ := I.cell x c hc
    refine wpAny_storeName_cell I.ok.kind hk hc z (fun h' hc' hs => ?_)
    obtain ⟨oc, hoc, hocd⟩ := id z
    refine h { s with heap := h' } ⟨I.ok, I.os, I.bare, ⟨fun b o e n hb hx => ?_, fun b o e n hb hx => ?_, I.base.free, fun b o e hx => ?_, I.base.tups, I.base.frzs, I.base.tbls⟩, ⟨m, hn.sameBut hs (Ne.symm (cne x c hc)), fun j y v' e1 e2 e3 => ?_⟩, fun y c' e => ?_, I.free, I.freeC, fun p hp => ?_, tracked ⟨oc, hoc, I.freeC x c hc⟩ hs, by simpa using I.len⟩ ⟨c, hs, .inr hc⟩
    · exact (hs.2 b (Nat.ne_of_lt (Nat.lt_of_lt_of_le (Heap.lt_size e) (I.ok.cab x c hfn hc)))).trans (I.base.keep b o e n hb hx)
    · obtain ⟨sl, e1⟩ := I.base.slot b o e n hb hx
      exact ⟨sl, (hs.2 b (Nat.ne_of_lt (Nat.lt_of_lt_of_le (Heap.lt_size e) (I.ok.cab x c hfn hc)))).trans e1⟩
    · obtain ⟨o', e1⟩ := I.base.there b o e hx
      exact ⟨o', (hs.2 b (Nat.ne_of_lt (Nat.lt_of_lt_of_le (Heap.lt_size e) (I.ok.cab x c hfn hc)))).trans e1⟩
    · by_cases hj : j = i
      · subst hj
        rw [hi] at e1; cases e1
        rw [List.getElem?_set_self hiσ] at e2
        cases e2
        exact ⟨u, r, .inr ⟨.inl hk, c, hc, hc'⟩⟩
      · rw [List.getElem?_set_ne (Ne.symm hj)] at e2
        obtain ⟨u', r', q⟩ := hl j y v' e1 e2 e3
        refine ⟨u', r', ?_⟩
        rcases q with q | ⟨k, c', e, z'⟩
        · exact .inl q
        · refine .inr ⟨k, c', e, z'.sameBut hs ?_⟩
          rintro rfl
          exact hj (nodup_ix hN e1 (I.ok.inj _ _ _ e hc ▸ hi))
    · by_cases hcc : c' = c
      · subst hcc; exact ⟨_, hc'⟩
      · obtain ⟨w2, z2⟩ := I.cell y c' e
        exact ⟨w2, z2.sameBut hs hcc⟩
    · obtain ⟨e, n, ne, nf, d⟩ := I.pin p hp
      refine ⟨(hs.2 p.1 ?_).trans e, n, ne, nf, d⟩
      intro q
      rw [q, hoc] at e
      have q' : oc = p.2 := Option.some.inj e
      exact d w' (by rw [← q']; exact hocd)
theorem store_ok {M : Model} {A : Around} {E : Value → Shared → Prop} {i : Nat} {x : Str} {v : V} {u : Value} {Q : Unit → Shared → Prop} (I : Inv X pins σ H s) (hN : X.N.Nodup) (hi : X.N[i]? = some x) (hx : Loc X.env.scope x) (r : RelV v u)
    (h : ∀ s', Inv X pins (σ.set i (some v)) H s' → Q () s') (hf : X.fn x = true ∨ X.env.scope.names.lookup x = some .local := by first | exact .inl rfl | exact .inr rfl | assumption) : wpAny M A (storeName X.env x u) Q E s :=
  store_ok2 I hN hi hx r (fun s' I' _ => h s' I') hf
/-- behind a call or a block, the state as it is -/
theorem Inv.call' {s' : Shared} {ch : List Addr} (I : Inv X pins σ H s) (ho : s'.os = s.os) (u : Un (frs X.stack) ch H H' s.heap s'.heap) (hok : HOk X.prog X.w H' s'.heap) (hg : AllBare s'.gens)
    (hch : ∀ b ∈ ch, (b ∈ X.ex ∨ X.s₀.heap.objs.size ≤ b) ∧ b ≠ X.env.locals ∧ (∀ x c, X.env.cells.lookup x = some c → c ≠ b) ∧ ∀ p ∈ X.pn ++ pins, p.1 ≠ b) : Inv X pins σ H' s' := by
  obtain ⟨h', g', d', t', o'⟩ := s'
  have e : o' = s.os := ho
  subst e
  exact I.call (g' := g') (t' := t') (d' := d') u hok hg hch
end

/-! ### the judgements -/
/-- an exception: its class, its own dict's address (where it has one), the abstract heap behind it -/
noncomputable abbrev XK := Value → Option Addr → Hp → Prop
noncomputable abbrev St := List (Option V)
noncomputable abbrev VK := V → Hp → Prop
/-- an expression's reading; a test's; an argument list's -/
noncomputable abbrev TE := St → Hp → VK → Prop
noncomputable abbrev TT := St → Hp → (Bool → Hp → Prop) → Prop
noncomputable abbrev TA := St → Hp → (List V → Hp → Prop) → Prop
/-- what is wanted behind a statement -/
structure Ends where
  nx : St → Hp → Prop
  rt : VK
  bk : St → Hp → Prop := fun _ _ => False
  ct : St → Hp → Prop := fun _ _ => False
noncomputable abbrev TS := Ends → St → Hp → Prop

noncomputable def EP (X : Cx) (pins : List (Addr × Obj)) (σ : St) (Q : VK) (u : Value) (s' : Shared) : Prop := ∃ v H', Inv X pins σ H' s' ∧ RelV v u ∧ Q v H'
noncomputable def TP (X : Cx) (pins : List (Addr × Obj)) (σ : St) (Q : Bool → Hp → Prop) (b : Bool) (s' : Shared) : Prop := ∃ H', Inv X pins σ H' s' ∧ Q b H'
noncomputable def AP (X : Cx) (pins : List (Addr × Obj)) (σ : St) (Q : List V → Hp → Prop) (us : List Value) (s' : Shared) : Prop := ∃ vs H', Inv X pins σ H' s' ∧ Vals vs us ∧ Q vs H'
noncomputable def SP (X : Cx) (pins : List (Addr × Obj)) (D : Ends) (f : Flow) (s' : Shared) : Prop :=
  match f with
  | .next => ∃ σ' H', Inv X pins σ' H' s' ∧ D.nx σ' H'
  | .brk => ∃ σ' H', Inv X pins σ' H' s' ∧ D.bk σ' H'
  | .cont => ∃ σ' H', Inv X pins σ' H' s' ∧ D.ct σ' H'
  | .ret u => ∃ v σ' H', Inv X pins σ' H' s' ∧ RelV v u ∧ D.rt v H'

noncomputable def PE (X : Cx) (e : Expr) (t : TE) : Prop :=
  ∀ (pins : List (Addr × Obj)) (s : Shared) (σ : St) (H : Hp) (Q : VK), Inv X pins σ H s → t σ H Q → wpAny (model X.prog X.w) X.A (eval e X.env) (EP X pins σ Q) X.xe s
noncomputable def PT (X : Cx) (e : Expr) (t : TT) : Prop :=
  ∀ (pins : List (Addr × Obj)) (s : Shared) (σ : St) (H : Hp) (Q : Bool → Hp → Prop), Inv X pins σ H s → t σ H Q → wpAny (model X.prog X.w) X.A (isTrue e X.env (eval e X.env)) (TP X pins σ Q) X.xe s
/-- a test whatever its 'whole' is (and, or) -/
noncomputable def PW (X : Cx) (e : Expr) (t : TT) : Prop :=
  ∀ (whole : Sem Value) (pins : List (Addr × Obj)) (s : Shared) (σ : St) (H : Hp) (Q : Bool → Hp → Prop), Inv X pins σ H s → t σ H Q → wpAny (model X.prog X.w) X.A (isTrue e X.env whole) (TP X pins σ Q) X.xe s
theorem PW.pt {X : Cx} {e : Expr} {t : TT} (h : PW X e t) : PT X e t := h _
/-- an argument list (no star), from the left -/
noncomputable def PA (X : Cx) (es : List Expr) (t : TA) : Prop :=
  ∀ (pos : Pos) (pins : List (Addr × Obj)) (s : Shared) (σ : St) (H : Hp) (Q : List V → Hp → Prop), Inv X pins σ H s → t σ H Q → wpAny (model X.prog X.w) X.A (spliced (backTo pos (starEach es X.env))) (AP X pins σ Q) X.xe s
noncomputable def PS (X : Cx) (st : Stmt) (t : TS) : Prop :=
  ∀ (pins : List (Addr × Obj)) (s : Shared) (σ : St) (H : Hp) (D : Ends), Inv X pins σ H s → t D σ H → wpAny (model X.prog X.w) X.A (exec st X.env) (SP X pins D) X.xe s
noncomputable def PSs (X : Cx) (st : List Stmt) (t : TS) : Prop :=
  ∀ (pins : List (Addr × Obj)) (s : Shared) (σ : St) (H : Hp) (D : Ends), Inv X pins σ H s → t D σ H → wpAny (model X.prog X.w) X.A (execs st X.env) (SP X pins D) X.xe s
/-- weaken the end -/
theorem thn {α : Type} {t : Sem α} {Q Q' : α → Shared → Prop} {M : Model} {A : Around} {E : Value → Shared → Prop} {s : Shared} (h : wpAny M A t Q E s) (hQ : ∀ a s, Q a s → Q' a s) : wpAny M A t Q' E s := wpAny_mono h hQ fun _ _ x => x
end L2

namespace L2
open PySem PySem.Spec PyProof.Rows
section
variable {X : Cx}


/-! ### names and constants -/
noncomputable def tVar (i : Nat) : TE := fun σ H Q => ∃ v, σ[i]? = some (some v) ∧ Q v H
noncomputable def tC (v : V) : TE := fun _ H Q => Q v H
theorem pe_var {i : Nat} {x : Str} {pos : Pos} (hN : X.N[i]? = some x) (hv : Vis X.env.scope x) (hd : (x == ("__debug__" : Str)) = false := by decide) (hcd : (x == ("__classdict__" : Str)) = false := by decide) : PE X (.Name x pos) (tVar i) := by
  intro pins s σ H Q I h
  obtain ⟨v, e, h⟩ := h
  obtain ⟨m, hn, hl⟩ := I.loc
  obtain ⟨u, r, l⟩ := hl i x v hN e hv
  have fin : EP X pins σ Q u s := ⟨v, H, I, r, h⟩
  rcases l with ⟨hk, hm⟩ | ⟨hk, c, hc, hcell⟩
  · exact wpAny_Name (wpAny_loadName_local I.ok.kind hk hn hm fin) hd
  · rcases hk with hk | hk
    · exact wpAny_Name (wpAny_loadName_cell I.ok.kind hk hc hcell fin) hd
    · exact wpAny_Name (wpAny_loadName_free I.ok.kind hk hc hcell fin hcd) hd
theorem pe_int {i j pos} : PE X (.Constant (.int i) j pos) (tC (.int i)) := fun _ _ _ H _ I h => wpAny_Constant_int ⟨.int i, H, I.tok _, ⟨_, rfl⟩, h⟩
theorem pe_bl {b j pos} : PE X (.Constant (.bool b) j pos) (tC (.bl b)) := fun _ _ _ H _ I h => Constant_bool ⟨.bl b, H, I, rfl, h⟩
theorem pe_non {j pos} : PE X (.Constant .none j pos) (tC .non) := fun _ _ _ H _ I h => Constant_none ⟨.non, H, I, rfl, h⟩
theorem pe_str {x j pos} : PE X (.Constant (.str x) j pos) (tC (.str x)) := fun _ _ _ H _ I h => Calls.Constant_str ⟨.str x, H, I.tok _, ⟨_, rfl⟩, h⟩

/-- a global name of the def -/
noncomputable def Gl (X : Cx) (x : Str) : Prop := X.env.kindOf x = some .globalImplicit
theorem ld_glob {E : Value → Shared → Prop} {pins : List (Addr × Obj)} {s : Shared} {σ : St} {H : Hp} {x : Str} {u : Value} {pos : Pos} {Q : Value → Shared → Prop} (I : Inv X pins σ H s) (hg : Gl X x) (hm : X.mg x = some u) (h : Q u s)
    (hd : (x == ("__debug__" : Str)) = false := by decide) : wpAny (model X.prog X.w) X.A (eval (.Name x pos) X.env) Q E s :=
  Calls.Name_function_global I.ok.kind hg (Calls.loadGlobal_global (by rw [I.ok.glob]; exact I.mod.glob.keeps I.bk) hm h) hd
theorem ld_blt {E : Value → Shared → Prop} {pins : List (Addr × Obj)} {s : Shared} {σ : St} {H : Hp} {x : Str} {u : Value} {pos : Pos} {Q : Value → Shared → Prop} (I : Inv X pins σ H s) (hg : Gl X x) (hm : X.mg x = none) (hv : bootBuiltins x = some u) (h : Q u s)
    (hn : x ≠ "__name__" := by decide) (hd : (x == ("__debug__" : Str)) = false := by decide) : wpAny (model X.prog X.w) X.A (eval (.Name x pos) X.env) Q E s := by
  obtain ⟨mb, h1, h2⟩ := I.mod.blt
  exact Calls.Name_function_global I.ok.kind hg (Calls.loadGlobal_builtin (by rw [I.ok.glob]; exact I.mod.glob.keeps I.bk) hm (by rw [I.ok.blt]; exact h1.keeps I.bk) ((h2 x hn).trans hv) h) hd
/-- a module's constant, a class, a function, as a value -/
theorem pe_glob {x : Str} {v : V} {u : Value} {pos : Pos} (hg : Gl X x) (hm : X.mg x = some u) (r : RelV v u) (hd : (x == ("__debug__" : Str)) = false := by decide) : PE X (.Name x pos) (tC v) :=
  fun _ _ _ H _ I h => ld_glob I hg hm ⟨v, H, I, r, h⟩ hd
theorem pe_bltn {x : Str} {v : V} {u : Value} {pos : Pos} (hg : Gl X x) (hm : X.mg x = none) (hv : bootBuiltins x = some u) (r : RelV v u) (hn : x ≠ "__name__" := by decide) (hd : (x == ("__debug__" : Str)) = false := by decide) : PE X (.Name x pos) (tC v) :=
  fun _ _ _ H _ I h => ld_blt I hg hm hv ⟨v, H, I, r, h⟩ hn hd

/-! ### arithmetic -/
variable {a b : Expr} {ta tb : TE} {pos : Pos}

/-! ### comparisons -/
/-- a comparison as a value, as a test -/
noncomputable def tB (t : TE) : TT := fun σ H Q => t σ H fun x H1 => ∃ c, x = .bl c ∧ Q c H1
/-- an expression whose value is a bool, as a test -/
theorem pt_val {e : Expr} {t : TE} (h : PE X e t) (he : ∀ whole, isTrue e X.env whole = (do let v ← whole; standAt e.pos; holding [v] (truthy v)) := by intro _; rfl) : PT X e (tB t) := by
  intro pins s σ H Q I hw
  refine isTrue_plain (thn (h pins s σ H _ I hw) fun v s1 ⟨x, H1, I1, r1, q1⟩ => ?_) (he _)
  obtain ⟨d, rfl, q⟩ := q1
  cases r1
  exact wpAny_truthy_bool ⟨H1, I1, q⟩

/-! ### and, or, not -/
variable {tA tB' : TT} {rest : List Expr}
noncomputable def tAnd (t u : TT) : TT := fun σ H Q => t σ H fun c H1 => if c = true then u σ H1 Q else Q false H1
noncomputable def tOr (t u : TT) : TT := fun σ H Q => t σ H fun c H1 => if c = true then Q true H1 else u σ H1 Q
noncomputable def tNot (t : TT) : TT := fun σ H Q => t σ H fun c H1 => Q (!c) H1
theorem pw_and1 (ha : PT X a tA) : PW X (.BoolOp .And [a] pos) tA := by
  intro wh pins s σ H Q I h
  refine isTrue_and (thn (ha pins s σ H Q I h) fun c s1 e => ?_)
  cases c with
  | true => exact isTrue_and_nil e
  | false => exact e
theorem pw_or1 (ha : PT X a tA) : PW X (.BoolOp .Or [a] pos) tA := by
  intro wh pins s σ H Q I h
  refine isTrue_or (thn (ha pins s σ H Q I h) fun c s1 e => ?_)
  cases c with
  | false => exact isTrue_or_nil e
  | true => exact e
theorem pw_and (ha : PT X a tA) (hb : PW X (.BoolOp .And (b :: rest) pos) tB') : PW X (.BoolOp .And (a :: b :: rest) pos) (tAnd tA tB') := by
  intro wh pins s σ H Q I h
  refine isTrue_and (thn (ha pins s σ H _ I h) fun c s1 ⟨H1, I1, q1⟩ => ?_)
  cases c with
  | true => exact hb wh pins s1 σ H1 Q I1 q1
  | false => exact ⟨H1, I1, q1⟩
theorem pw_or (ha : PT X a tA) (hb : PW X (.BoolOp .Or (b :: rest) pos) tB') : PW X (.BoolOp .Or (a :: b :: rest) pos) (tOr tA tB') := by
  intro wh pins s σ H Q I h
  refine isTrue_or (thn (ha pins s σ H _ I h) fun c s1 ⟨H1, I1, q1⟩ => ?_)
  cases c with
  | true => exact ⟨H1, I1, q1⟩
  | false => exact hb wh pins s1 σ H1 Q I1 q1
theorem pt_not (ha : PT X a tA) : PT X (.UnaryOp .Not a pos) (tNot tA) := by
  intro pins s σ H Q I h
  exact isTrue_not (ha pins s σ H (fun c H1 => Q (!c) H1) I h)
/-- .. as values (bools) -/
noncomputable def tAndV (ta tb : TE) : TE := fun σ H Q => ta σ H fun x H1 => ∃ c, x = .bl c ∧ if c = true then tb σ H1 Q else Q (.bl false) H1
noncomputable def tNotV (ta : TE) : TE := fun σ H Q => ta σ H fun x H1 => ∃ c, x = .bl c ∧ Q (.bl (!c)) H1
theorem pe_one {op} {t : TE} (h : PE X a t) : PE X (.BoolOp op [a] pos) t := fun pins s σ H Q I hw => BoolOp_one (h pins s σ H Q I hw)
theorem pe_and (ha : PE X a ta) (hb : PE X (.BoolOp .And (b :: rest) pos) tb) : PE X (.BoolOp .And (a :: b :: rest) pos) (tAndV ta tb) := by
  intro pins s σ H Q I h
  refine BoolOp_and (thn (ha pins s σ H _ I h) fun v s1 ⟨x, H1, I1, r1, q1⟩ => ?_)
  obtain ⟨c, rfl, q1⟩ := q1
  cases r1
  refine wpAny_truthy_bool ?_
  cases c with
  | true => exact hb pins s1 σ H1 Q I1 q1
  | false => exact ⟨.bl false, H1, I1, rfl, q1⟩
theorem pe_not (ha : PE X a ta) : PE X (.UnaryOp .Not a pos) (tNotV ta) := by
  intro pins s σ H Q I h
  refine UnaryOp_ (thn (ha pins s σ H _ I h) fun v s1 ⟨x, H1, I1, r1, q1⟩ => ?_)
  obtain ⟨c, rfl, q1⟩ := q1
  cases r1
  exact not_of (wpAny_truthy_bool ⟨.bl (!c), H1, I1, rfl, q1⟩)
end
end L2

namespace L2
open PySem PySem.Spec PyProof.Rows

/-! ### a list, a tuple that is read: tracked, frozen, or an object of the module -/
noncomputable def SqL (K : PySem.W.Frag) (H : Hp) (a : Addr) (xs : List V) : Prop :=
  Rd H a (.lst xs) ∨
    ∃ (o : Obj) (its : Array Value) (n : Nat), K.lookup a = some o ∧ o.cls = .type "list" ∧ o.dict = none ∧ o.data = .seq its n ∧ its.size ≤ sizeLine ∧ Vals xs its.toList
noncomputable def SqT (K : PySem.W.Frag) (H : Hp) (a : Addr) (xs : List V) : Prop :=
  Rd H a (.tup xs) ∨
    ∃ (o : Obj) (its : Array Value) (n : Nat), K.lookup a = some o ∧ o.cls = .type "tuple" ∧ o.data = .seq its n ∧ its.size ≤ sizeLine ∧ Vals xs its.toList
noncomputable def absV : Value → Option V
  | .none => some .non
  | .bool b => some (.bl b)
  | .int i _ => some (.int i)
  | .str x _ => some (.str x)
  | .bytes b _ => some (.byt b)
  | .float b _ => some (.flt b)
  | .ref a => some (.ref a)
  | .type n => some (.ty n)
  | _ => none
theorem RelV.abs {x : V} {u : Value} (r : RelV x u) : absV u = some x := by
  cases x with
  | non => cases r; rfl
  | bl _ => cases r; rfl
  | int _ => obtain ⟨t, rfl⟩ := r; rfl
  | str _ => obtain ⟨t, rfl⟩ := r; rfl
  | byt _ => obtain ⟨t, rfl⟩ := r; rfl
  | flt _ => obtain ⟨t, rfl⟩ := r; rfl
  | ref _ => cases r; rfl
  | ty _ => cases r; rfl
theorem RelV.inj {x y : V} {u : Value} (r : RelV x u) (q : RelV y u) : x = y := Option.some.inj (r.abs.symm.trans q.abs)
theorem Vals.inj : ∀ {xs ys : List V} {us : List Value}, Vals xs us → Vals ys us → xs = ys
  | _, _, _, .nil, .nil => rfl
  | _, _, _, .cons r t, .cons r' t' => by rw [r.inj r', Vals.inj t t']
section
variable {X : Cx} {pins : List (Addr × Obj)} {σ : St} {H : Hp} {s : Shared} {a : Addr} {xs ys : List V}
theorem SqL.of {K : PySem.W.Frag} (h : H a = some (.lst xs)) : SqL K H a xs := .inl (.inl h)
theorem SqT.of {K : PySem.W.Frag} (h : H a = some (.tup xs)) : SqT K H a xs := .inl (.inl h)
theorem Inv.list (I : Inv X pins σ H s) (h : SqL X.K H a xs) : ∃ its : List Value, Vals xs its ∧ PlainL s.heap a its.toArray ∧ xs.length ≤ sizeLine := by
  rcases h with h | ⟨o, its, n, hk, hc, hd, hs, hz, r⟩
  · obtain ⟨z, its, n, r, e⟩ := h.ok I.hok
    exact ⟨its, r, ⟨_, n, e, rfl, rfl, rfl⟩, z⟩
  · refine ⟨its.toList, r, ⟨o, n, I.kIn a o hk, hc, hd, by simpa using hs⟩, ?_⟩
    have e := r.length
    simp only [Array.length_toList] at e
    omega
theorem Inv.tuple (I : Inv X pins σ H s) (h : SqT X.K H a xs) : ∃ its : List Value, Vals xs its ∧ IsTup s.heap a its.toArray ∧ xs.length ≤ sizeLine := by
  rcases h with h | ⟨o, its, n, hk, hc, hs, hz, r⟩
  · obtain ⟨z, its, r, p⟩ := h.ok I.hok
    exact ⟨its, r, p, z⟩
  · refine ⟨its.toList, r, ⟨o, I.kIn a o hk, hc, n, by simpa using hs⟩, ?_⟩
    have e := r.length
    simp only [Array.length_toList] at e
    omega
theorem Inv.list_inj (I : Inv X pins σ H s) (h : SqL X.K H a xs) (h' : SqL X.K H a ys) : xs = ys := by
  obtain ⟨its, r, ⟨o, n, e, _, _, d⟩, _⟩ := I.list h
  obtain ⟨its', r', ⟨o', n', e', _, _, d'⟩, _⟩ := I.list h'
  rw [e] at e'; cases e'
  rw [d] at d'
  injection d' with d1 _
  have : its = its' := by simpa using congrArg Array.toList d1
  subst this
  exact r.inj r'
theorem Inv.tuple_inj (I : Inv X pins σ H s) (h : SqT X.K H a xs) (h' : SqT X.K H a ys) : xs = ys := by
  obtain ⟨its, r, ⟨o, e, _, n, d⟩, _⟩ := I.tuple h
  obtain ⟨its', r', ⟨o', e', _, n', d'⟩, _⟩ := I.tuple h'
  rw [e] at e'; cases e'
  rw [d] at d'
  injection d' with d1 _
  have : its = its' := by simpa using congrArg Array.toList d1
  subst this
  exact r.inj r'
end

/-! ### another wish about exceptions -/
noncomputable abbrev Cx.wish (X : Cx) (E : Value → Shared → Prop) : Cx := { X with xe := E }
/-- no exception leaves -/
noncomputable abbrev Cx.nox (X : Cx) : Cx := X.wish fun _ _ => False
theorem Cx.Ok.wish {X : Cx} (ok : X.Ok) (E : Value → Shared → Prop) : (X.wish E).Ok :=
  ⟨ok.mod, ok.kind, ok.glob, ok.blt, ok.above, ok.inj, ok.has, ok.cab, ok.hd, ok.frames, ok.stk, ok.exf, ok.bs, ok.bsz, ok.noex, ok.exfs, ok.funs, ok.frf⟩
theorem Cx.Ok.unwish {X : Cx} {E : Value → Shared → Prop} (ok : (X.wish E).Ok) : X.Ok :=
  ⟨ok.mod, ok.kind, ok.glob, ok.blt, ok.above, ok.inj, ok.has, ok.cab, ok.hd, ok.frames, ok.stk, ok.exf, ok.bs, ok.bsz, ok.noex, ok.exfs, ok.funs, ok.frf⟩
section
variable {X : Cx} {pins : List (Addr × Obj)} {σ : St} {H : Hp} {s : Shared} {E : Value → Shared → Prop}
theorem Inv.wish (I : Inv X pins σ H s) (E : Value → Shared → Prop) : Inv (X.wish E) pins σ H s := ⟨I.ok.wish E, I.os, I.bare, I.base, I.loc, I.cell, I.free, I.freeC, I.pin, I.hok, I.len⟩
theorem Inv.unwish (I : Inv (X.wish E) pins σ H s) : Inv X pins σ H s := ⟨I.ok.unwish, I.os, I.bare, I.base, I.loc, I.cell, I.free, I.freeC, I.pin, I.hok, I.len⟩
theorem SP.unwish {D : Ends} {f : Flow} {s' : Shared} (h : SP (X.wish E) pins D f s') : SP X pins D f s' := by
  cases f with
  | next => obtain ⟨σ', H', I, q⟩ := h; exact ⟨σ', H', I.unwish, q⟩
  | brk => obtain ⟨σ', H', I, q⟩ := h; exact ⟨σ', H', I.unwish, q⟩
  | cont => obtain ⟨σ', H', I, q⟩ := h; exact ⟨σ', H', I.unwish, q⟩
  | ret u => obtain ⟨v, σ', H', I, r, q⟩ := h; exact ⟨v, σ', H', I.unwish, r, q⟩
theorem PE.nox {e : Expr} {t : TE} (h : PE X.nox e t) : PE X e t := fun pins s σ H Q I hw =>
  wpAny_mono (h pins s σ H Q (I.wish _) hw) (fun _ _ ⟨v, H', I', r, q⟩ => ⟨v, H', I'.unwish, r, q⟩) fun _ _ z => False.elim z
theorem PT.nox {e : Expr} {t : TT} (h : PT X.nox e t) : PT X e t := fun pins s σ H Q I hw =>
  wpAny_mono (h pins s σ H Q (I.wish _) hw) (fun _ _ ⟨H', I', q⟩ => ⟨H', I'.unwish, q⟩) fun _ _ z => False.elim z
theorem PSs.nox {st : List Stmt} {t : TS} (h : PSs X.nox st t) : PSs X st t := fun pins s σ H D I hw =>
  wpAny_mono (h pins s σ H D (I.wish _) hw) (fun _ _ q => q.unwish) fun _ _ z => False.elim z
end

/-! ### blocks and small statements -/
section
variable {X : Cx} {st : Stmt} {rest : List Stmt} {t u : TS} {e : Expr} {te : TE} {pos : Pos}
noncomputable def tNext : TS := fun D σ H => D.nx σ H
noncomputable def tSeq (t u : TS) : TS := fun D σ H => t { D with nx := u D } σ H
theorem pss_nil : PSs X [] tNext := fun _ _ σ H _ I h => wpAny_execs_nil ⟨σ, H, I, h⟩
theorem pss_cons (h1 : PS X st t) (h2 : PSs X rest u) : PSs X (st :: rest) (tSeq t u) := by
  intro pins s σ H D I h
  refine wpAny_execs_cons (thn (h1 pins s σ H { D with nx := u D } I h) fun f s1 q => ?_)
  cases f with
  | next =>
    obtain ⟨σ', H', I', q⟩ := q
    exact h2 pins s1 σ' H' D I' q
  | ret v => exact q
  | brk => exact q
  | cont => exact q
theorem pss_one (h1 : PS X st t) : PSs X [st] t := by
  intro pins s σ H D I h
  refine wpAny_execs_cons (thn (h1 pins s σ H D I h) fun f s1 q => ?_)
  cases f with
  | next => exact wpAny_execs_nil q
  | ret v => exact q
  | brk => exact q
  | cont => exact q
/-- in a def's body nothing is shown -/
theorem Inv.quiet {pins : List (Addr × Obj)} {σ : St} {H : Hp} {s : Shared} (I : Inv X pins σ H s) : interactive X.env = false := by simp [interactive, I.ok.kind]
/-- an expression whose value is dropped -/
noncomputable def tDrop (te : TE) : TS := fun D σ H => te σ H fun _ H1 => D.nx σ H1
theorem ps_expr (he : PE X e te) (hs : swapsWith e none pos.line X.env = pure false := by rfl) : PS X (.Expr e pos) (tDrop te) := by
  intro pins s σ H D I h
  exact wpAny_Expr_any (thn (he pins s σ H _ I h) fun v s1 ⟨x, H1, I1, r1, q1⟩ => ⟨σ, H1, I1, q1⟩) I.quiet hs
noncomputable def tRet (te : TE) : TS := fun D σ H => te σ H D.rt
theorem ps_ret (he : PE X e te) : PS X (.Return (some e) pos) (tRet te) := by
  intro pins s σ H D I h
  exact wpAny_Return_some (thn (he pins s σ H _ I h) fun v s1 ⟨x, H1, I1, r1, q1⟩ => ⟨x, σ, H1, I1, r1, q1⟩)
noncomputable def tIfS (c : TT) (t u : TS) : TS := fun D σ H => c σ H fun b H1 => if b = true then t D σ H1 else u D σ H1
theorem ps_if {c : Expr} {a b : List Stmt} {tc : TT} (hc : PT X c tc) (ha : PSs X a t) (hb : PSs X b u) : PS X (.If c a b pos) (tIfS tc t u) := by
  intro pins s σ H D I h
  refine wpAny_If (thn (hc pins s σ H _ I h) fun d s1 ⟨H1, I1, q1⟩ => ?_)
  cases d with
  | true => exact ha pins s1 σ H1 D I1 q1
  | false => exact hb pins s1 σ H1 D I1 q1
/-- code that the proof never comes to -/
noncomputable def tNever : TS := fun _ _ _ => False
theorem ps_never : PS X st tNever := fun _ _ _ _ _ _ h => h.elim
end

/-! ### targets -/
noncomputable abbrev TG := V → St → Hp → (St → Hp → Prop) → Prop
noncomputable abbrev TGs := List V → St → Hp → (St → Hp → Prop) → Prop
noncomputable def PG (X : Cx) (target : Expr) (t : TG) : Prop :=
  ∀ (pins : List (Addr × Obj)) (s : Shared) (σ : St) (H : Hp) (v : V) (u : Value) (Q : St → Hp → Prop), Inv X pins σ H s → RelV v u → t v σ H Q →
    wpAny (model X.prog X.w) X.A (assign target X.env u) (fun _ s' => ∃ σ' H', Inv X pins σ' H' s' ∧ Q σ' H') X.xe s
/-- several targets, one after another -/
noncomputable def PGs (X : Cx) (ts : List Expr) (t : TGs) : Prop :=
  ∀ (pins : List (Addr × Obj)) (s : Shared) (σ : St) (H : Hp) (vs : List V) (us : List Value) (Q : St → Hp → Prop), Inv X pins σ H s → Vals vs us → t vs σ H Q →
    wpAny (model X.prog X.w) X.A (assignInOrder ((assignEach ts X.env).map (·.2)) us) (fun _ s' => ∃ σ' H', Inv X pins σ' H' s' ∧ Q σ' H') X.xe s
section
variable {X : Cx} {pos : Pos}
noncomputable def gName (i : Nat) : TG := fun v σ H Q => Q (σ.set i (some v)) H
theorem pg_name {i : Nat} {x : Str} (hN : X.N.Nodup) (hi : X.N[i]? = some x) (hx : Loc X.env.scope x) (hf : X.fn x = true ∨ X.env.scope.names.lookup x = some .local := by first | exact .inl rfl | exact .inr rfl | assumption) : PG X (.Name x pos) (gName i) := by
  intro pins s σ H v u Q I r h
  exact wpAny_assign_Name (store_ok I hN hi hx r (fun s' I' => ⟨_, H, I', h⟩) hf)
noncomputable def gNil : TGs := fun vs σ H Q => vs = [] ∧ Q σ H
noncomputable def gCons (t : TG) (u : TGs) : TGs := fun vs σ H Q => ∃ v r, vs = v :: r ∧ t v σ H fun σ' H' => u r σ' H' Q
theorem pgs_nil : PGs X [] gNil := by
  intro pins s σ H vs us Q I r h
  obtain ⟨e, h⟩ := h
  subst e
  cases r
  exact assignInOrder_nil ⟨σ, H, I, h⟩
theorem pgs_cons {e : Expr} {es : List Expr} {t : TG} {u : TGs} (h1 : PG X e t) (h2 : PGs X es u)
    (hs : (assignEach (e :: es) X.env).map (·.2) = assign e X.env :: (assignEach es X.env).map (·.2) := by rfl) : PGs X (e :: es) (gCons t u) := by
  intro pins s σ H vs us Q I r h
  obtain ⟨v, vr, e1, h⟩ := h
  subst e1
  cases r with
  | cons r rr =>
    rw [hs]
    refine assignInOrder_cons (thn (h1 pins s σ H _ _ _ I r h) fun _ s1 ⟨σ1, H1, I1, q1⟩ => ?_)
    exact h2 pins s1 σ1 H1 _ _ Q I1 rr q1
/-- (a, b, ..) = a tuple of that length -/
noncomputable def gTup (K : PySem.W.Frag) (n : Nat) (t : TGs) : TG := fun v σ H Q => ∃ a xs, v = .ref a ∧ SqT K H a xs ∧ xs.length = n ∧ t xs σ H Q
theorem pg_tup {es : List Expr} {k : Nat} {t : TGs} {n : Nat} (hc : X.calm = true) (h : PGs X es t)
    (hn : (assignEach es X.env).length = n := by rfl) (hst : (assignEach es X.env).findIdx? (·.1) = none := by rfl) : PG X (.Tuple es k pos) (gTup X.K n t) := by
  intro pins s σ H v u Q I r hw
  obtain ⟨a, xs, e1, hq, hl, hw⟩ := hw
  subst e1
  cases r
  obtain ⟨its, rv, ht, hz⟩ := I.tuple hq
  refine assign_Tuple_tuple (I.ok.hd hc) ht (by simp [hn, ← hl, rv.length]) hst fun h' hx => ?_
  have I1 : Inv X pins σ H { s with heap := h' } := I.kept (t' := s.toks) fun b o e => hx b o (Nat.ne_of_lt (Heap.lt_size e)) e
  exact h pins _ σ H xs _ Q I1 (by simpa using rv) hw
/-- target = value -/
noncomputable def tAsg (te : TE) (g : TG) : TS := fun D σ H => te σ H fun x H1 => g x σ H1 D.nx
/-- name = value -/
theorem ps_set {i : Nat} {x : Str} {e : Expr} {te : TE} {pos' : Pos} (hN : X.N.Nodup) (hi : X.N[i]? = some x) (hx : Loc X.env.scope x) (he : PE X e te) (hs : swapsWith e (some (.Name x pos')) pos.line X.env = pure false := by rfl) (hf : X.fn x = true ∨ X.env.scope.names.lookup x = some .local := by first | exact .inl rfl | exact .inr rfl | assumption) :
    PS X (.Assign [.Name x pos'] e pos) (tAsg te (gName i)) := by
  intro pins s σ H D I h
  refine wpAny_Assign_Name (thn (he pins s σ H _ I h) fun v s1 ⟨y, H1, I1, r1, q1⟩ => ?_) hs
  exact store_ok I1 hN hi hx r1 (fun s2 I2 => ⟨_, H1, I2, q1⟩) hf
end

/-! ### while -/
section
variable {X : Cx} {pos : Pos}
end

/-! ### what a loop or a comprehension walks -/
/-- at turn i: it yields x (the heap may grow), or it stops -/
structure It where
  go : Nat → Hp → Prop
  yld : Nat → Hp → V → Hp → Prop
  stop : Nat → Hp → Prop
/-- the iterator's own objects may turn: they are not the frame's, not pinned, younger than the entry (or a comprehension's own) -/
noncomputable def FpOk (X : Cx) (pins : List (Addr × Obj)) (H : Hp) (b : Addr) : Prop :=
  H b = none ∧ b ≠ X.env.locals ∧ b ∉ X.fs ∧ (b ∈ X.ex ∨ X.s₀.heap.objs.size ≤ b) ∧ (∀ x c, X.env.cells.lookup x = some c → c ≠ b) ∧ ∀ p ∈ X.pn ++ pins, p.1 ≠ b
theorem Inv.fpOk {X : Cx} {pins : List (Addr × Obj)} {σ : St} {H H' : Hp} {s : Shared} {b : Addr} (I : Inv X pins σ H s) (hb : s.heap.objs.size ≤ b) (hn : H' b = none) : FpOk X pins H' b := by
  refine ⟨hn, Nat.ne_of_gt (Nat.lt_of_lt_of_le I.lt hb), I.nofs hb, .inr (Nat.le_trans I.sz hb), fun x c e z => ?_, fun p hp z => ?_⟩
  · obtain ⟨v, q⟩ := I.cell x c e
    exact absurd (Nat.lt_of_lt_of_le q.lt (by rw [z]; exact hb)) (Nat.lt_irrefl _)
  · exact absurd (Nat.lt_of_lt_of_le (Heap.lt_size (I.pin p hp).1) (by rw [z]; exact hb)) (Nat.lt_irrefl _)
structure Turn (P : Program) (w : World) (K : PySem.W.Frag) (tg : Expr) (J : It) (fp : List Addr) (it : Addr) (tn : Nat → Heap → Prop) : Prop where
  mem : it ∈ fp
  obj : ∀ i h, tn i h → ∀ b ∈ fp, ∃ o, h.get? b = some o ∧ ∀ v, o.data ≠ .cell v
  keep : ∀ i h h', tn i h → (∀ b ∈ fp, ∀ o, h.get? b = some o → h'.get? b = some o) → tn i h'
  item : ∀ (X : Cx), X.prog = P → X.w = w → X.K = K → X.calm = true → ∀ (i : Nat) (pins : List (Addr × Obj)) (s : Shared) (σ : St) (H : Hp) (E : Value → Shared → Prop), Inv X pins σ H s → (∀ b ∈ fp, FpOk X pins H b) → tn i s.heap → J.go i H →
    wpAny (model P w) X.A (pyNext (.ref it)) (fun r s1 => ∃ u, r = some u ∧
      wpAny (model P w) X.A (letOwnedTupleGo tg (.ref it) u) (fun _ s2 => ∃ x H', Inv X pins σ H' s2 ∧ RelV x u ∧ J.yld i H x H' ∧ tn (i + 1) s2.heap ∧ ∀ b ∈ fp, H' b = none) E s1) E s
  done : ∀ (X : Cx), X.prog = P → X.w = w → X.K = K → X.calm = true → ∀ (i : Nat) (pins : List (Addr × Obj)) (s : Shared) (σ : St) (H : Hp) (E : Value → Shared → Prop), Inv X pins σ H s → (∀ b ∈ fp, FpOk X pins H b) → tn i s.heap → J.stop i H →
    wpAny (model P w) X.A (pyNext (.ref it)) (fun r s1 => r = none ∧ Inv X pins σ H s1) E s
  self : ∀ (A : Around) (i : Nat) (s : Shared) (Q : Value → Shared → Prop) (E : Value → Shared → Prop), tn i s.heap → Q (.ref it) s → wpAny (model P w) A (pyIter (.ref it)) Q E s
noncomputable abbrev TI := St → Hp → (It → Hp → Prop) → Prop
/-- an iterator has come -/
noncomputable def PIE (X : Cx) (pins : List (Addr × Obj)) (σ : St) (tg : Expr) (R : It → Hp → Prop) (itv : Value) (s2 : Shared) : Prop :=
  ∃ (it : Addr) (fp : List Addr) (tn : Nat → Heap → Prop) (J : It) (H' : Hp), itv = .ref it ∧ Inv X pins σ H' s2 ∧ Turn X.prog X.w X.K tg J fp it tn ∧ tn 0 s2.heap ∧ (∀ b ∈ fp, FpOk X pins H' b) ∧ R J H'
noncomputable def PI (X : Cx) (tg iter : Expr) (wi : TI) : Prop :=
  ∀ (pins : List (Addr × Obj)) (s : Shared) (σ : St) (H : Hp) (R : It → Hp → Prop), Inv X pins σ H s → wi σ H R →
    wpAny (model X.prog X.w) X.A (eval iter X.env) (fun v s1 => wpAny (model X.prog X.w) X.A (pyIter v) (PIE X pins σ tg R) X.xe s1) X.xe s

/-- the step ahead of the store is nothing for an iterator that keeps no tuple -/
theorem go_of {M : Model} {A : Around} {E : Value → Shared → Prop} {s : Shared} {tg : Expr} {it : Addr} {u : Value} {o : Obj} {n : String} {vs : Array Value} {Q : Unit → Shared → Prop} (ho : s.heap.get? it = some o) (hc : o.cls = .type n) (hd : o.data = .fields vs)
    (hn : ["enumerate", "zip", "dict_itemiterator", "dict_reverseitemiterator", "odict_iterator", "itertools.zip_longest", "itertools.pairwise"].contains n = false) (hQ : Q () s) : wpAny M A (letOwnedTupleGo tg (.ref it) u) Q E s := by
  unfold letOwnedTupleGo
  cases tg <;> first
    | exact wpAny_pure hQ
    | (cases u <;> first
        | exact wpAny_pure hQ
        | (refine wpAny_bind (wpAny_load ho ?_)
           rw [hc, hd]
           show wpAny M A (if (["enumerate", "zip", "dict_itemiterator", "dict_reverseitemiterator", "odict_iterator", "itertools.zip_longest", "itertools.pairwise"].contains n && vs[0]? == some (rawInt _)) = true then _ else _) Q E s
           rw [if_neg (by intro h; rw [hn, Bool.false_and] at h; cases h)]
           exact wpAny_pure hQ))

/-- the list at a, as it stands at each turn (a loop may append to it) -/
noncomputable def Itl (K : PySem.W.Frag) (a : Addr) : It :=
  ⟨fun i H => ∃ xs x, SqL K H a xs ∧ xs[i]? = some x, fun i H x H' => H' = H ∧ ∀ xs, SqL K H a xs → xs[i]? = some x, fun i H => ∃ xs, SqL K H a xs ∧ xs.length ≤ i⟩
noncomputable def Itt (K : PySem.W.Frag) (a : Addr) : It :=
  ⟨fun i H => ∃ xs x, SqT K H a xs ∧ xs[i]? = some x, fun i H x H' => H' = H ∧ ∀ xs, SqT K H a xs → xs[i]? = some x, fun i H => ∃ xs, SqT K H a xs ∧ xs.length ≤ i⟩
/-- lo, lo + 1, .. (n of them) -/
noncomputable def Itr (lo : Int) (n : Nat) : It := ⟨fun i _ => i < n, fun i H x H' => H' = H ∧ x = .int (lo + i), fun i _ => n ≤ i⟩
theorem turn_list {P : Program} {w : World} {K : PySem.W.Frag} {tg : Expr} (a it : Addr) : Turn P w K tg (Itl K a) [it] it (fun i h => h.IsListIter it a i) where
  mem := by simp
  obj := fun i h st b hb => by
    have e : b = it := by simpa using hb
    subst e
    obtain ⟨o, e, c, d⟩ := st
    exact ⟨o, e, fun v z => by rw [d] at z; cases z⟩
  keep := fun i h h' st k => st.at fun o e => k it (by simp) o e
  item := by
    intro X hP hw hK hc i pins s σ H E I hf st hg
    subst hP hw hK
    obtain ⟨xs, x, hq, hx⟩ := hg
    obtain ⟨its, rv, p, hz⟩ := I.list hq
    obtain ⟨u, hu, ru⟩ := rv.get hx
    obtain ⟨f0, f1, f2, f3, f4, f5⟩ := hf it (by simp)
    refine wpAny_pyNext_list_item st p.isList (x := u) (by simpa using hu) fun h' st' sb => ?_
    have I1 : Inv X pins σ H { s with heap := h' } := I.turned (t' := s.toks) (fun b o hb e => (sb.2 b hb).trans e) f0 f1 f3 f4 f5
    obtain ⟨o, e, c, d⟩ := id st'
    exact ⟨u, rfl, go_of (s := { s with heap := h' }) e c d (by decide) ⟨x, H, I1, ru, ⟨rfl, fun ys hy => by rw [I.list_inj hy hq]; exact hx⟩, st', fun b hb => (hf b hb).1⟩⟩
  done := by
    intro X hP hw hK hc i pins s σ H E I hf st hg
    subst hP hw hK
    obtain ⟨xs, hq, hx⟩ := hg
    obtain ⟨its, rv, p, hz⟩ := I.list hq
    obtain ⟨f0, f1, f2, f3, f4, f5⟩ := hf it (by simp)
    have hl := rv.length
    exact wpAny_pyNext_list_end (I.ok.hd hc) st p.isList (by simp; omega) fun h' eb => ⟨rfl, I.turned (t' := s.toks) (fun b o hb e => eb b o hb e) f0 f1 f3 f4 f5⟩
  self := fun _ _ _ _ _ st h => wpAny_pyIter_listiter st h
theorem turn_tuple {P : Program} {w : World} {K : PySem.W.Frag} {tg : Expr} (a it : Addr) : Turn P w K tg (Itt K a) [it] it (fun i h => h.IsTupleIter it a i) where
  mem := by simp
  obj := fun i h st b hb => by
    have e : b = it := by simpa using hb
    subst e
    obtain ⟨o, e, c, d⟩ := st
    exact ⟨o, e, fun v z => by rw [d] at z; cases z⟩
  keep := fun i h h' st k => st.at fun o e => k it (by simp) o e
  item := by
    intro X hP hw hK hc i pins s σ H E I hf st hg
    subst hP hw hK
    obtain ⟨xs, x, hq, hx⟩ := hg
    obtain ⟨its, rv, p, hz⟩ := I.tuple hq
    obtain ⟨u, hu, ru⟩ := rv.get hx
    obtain ⟨f0, f1, f2, f3, f4, f5⟩ := hf it (by simp)
    refine wpAny_pyNext_tuple_item st (show s.heap.IsTuple a its.toArray from p) (x := u) (by simpa using hu) fun h' st' sb => ?_
    have I1 : Inv X pins σ H { s with heap := h' } := I.turned (t' := s.toks) (fun b o hb e => (sb.2 b hb).trans e) f0 f1 f3 f4 f5
    obtain ⟨o, e, c, d⟩ := id st'
    exact ⟨u, rfl, go_of (s := { s with heap := h' }) e c d (by decide) ⟨x, H, I1, ru, ⟨rfl, fun ys hy => by rw [I.tuple_inj hy hq]; exact hx⟩, st', fun b hb => (hf b hb).1⟩⟩
  done := by
    intro X hP hw hK hc i pins s σ H E I hf st hg
    subst hP hw hK
    obtain ⟨xs, hq, hx⟩ := hg
    obtain ⟨its, rv, p, hz⟩ := I.tuple hq
    obtain ⟨f0, f1, f2, f3, f4, f5⟩ := hf it (by simp)
    have hl := rv.length
    exact wpAny_pyNext_tuple_end (I.ok.hd hc) st (show s.heap.IsTuple a its.toArray from p) (by simp; omega) fun h' eb => ⟨rfl, I.turned (t' := s.toks) (fun b o hb e => eb b o hb e) f0 f1 f3 f4 f5⟩
  self := fun _ _ _ _ _ st h => wpAny_pyIter_tupleiter st h
theorem turn_range {P : Program} {w : World} {K : PySem.W.Frag} {tg : Expr} (it : Addr) (lo : Int) (n : Nat) : Turn P w K tg (Itr lo n) [it] it (fun i h => IsRangeIter h it (lo + (i : Nat) * 1) ((n : Int) - (i : Nat)) 1) where
  mem := by simp
  obj := fun i h st b hb => by
    have e : b = it := by simpa using hb
    subst e
    exact ⟨_, st, fun v z => by
      have z' : Data.fields _ = Data.cell v := z
      cases z'⟩
  keep := fun i h h' st k => k it (by simp) _ st
  item := by
    intro X hP hw hK hc i pins s σ H E I hf st hg
    subst hP hw hK
    obtain ⟨f0, f1, f2, f3, f4, f5⟩ := hf it (by simp)
    have W := Walks.range (prog := X.prog) (w := X.w) (I.ok.hd hc) it lo 1 n
    refine W.item i s _ _ hg st fun v h' tk hv st' kk => ?_
    obtain ⟨t, rfl⟩ := hv
    have I1 : Inv X pins σ H { s with heap := h', toks := tk } := I.turned (fun b o hb e => kk b o (by simpa using hb) e) f0 f1 f3 f4 f5
    refine ⟨_, rfl, go_of (s := { s with heap := h', toks := tk }) (n := "range_iterator") st' rfl rfl (by decide) ⟨.int (lo + i), H, I1, ⟨t, ?_⟩, ⟨rfl, rfl⟩, st', fun b hb => (hf b hb).1⟩⟩
    rw [Int.mul_one]
  done := by
    intro X hP hw hK hc i pins s σ H E I hf st hg
    subst hP hw hK
    obtain ⟨f0, f1, f2, f3, f4, f5⟩ := hf it (by simp)
    exact wpAny_pyNext_range_end (I.ok.hd hc) st (by have : n ≤ i := hg; omega) fun h' eb => ⟨rfl, I.turned (t' := s.toks) (fun b o hb e => eb b o hb e) f0 f1 f3 f4 f5⟩
  self := fun _ _ _ _ _ st h => wpAny_pyIter_rangeiter st h
end L2

namespace L2
open PySem PySem.Spec PyProof.Rows
section
variable {X : Cx} {tg : Expr}
/-- a range object just made, walked -/
theorem range_it {pins : List (Addr × Obj)} {σ : St} {H : Hp} {s : Shared} {R : It → Hp → Prop} {E : Value → Shared → Prop} {lo hi : Int} {t u v : Tok} {tk : Nat} (I : Inv X pins σ H s) (h1 : -(2 ^ 62) ≤ lo) (h2 : lo < 2 ^ 62) (h3 : -(2 ^ 62) ≤ hi) (h4 : hi < 2 ^ 62)
    (q : R (Itr lo (hi - lo).toNat) H) : wpAny (model X.prog X.w) X.A (pyIter (.ref s.heap.objs.size)) (PIE X pins σ tg R) E { s with heap := s.heap.push { cls := .type "range", data := .fields #[.int lo t, .int hi u, .int 1 v] }, toks := tk } := by
  refine wpAny_pyIter_range (IsRange.new ..) (small_one h1 h2 h3 h4) ?_
  have I1 : Inv X pins σ H { s with heap := s.heap.push { cls := .type "range", data := .fields #[.int lo t, .int hi u, .int 1 v] }, toks := tk } := I.kept fun b o e => Heap.get?_push_of_some _ e
  refine ⟨(s.heap.push { cls := .type "range", data := .fields #[.int lo t, .int hi u, .int 1 v] }).objs.size, [(s.heap.push { cls := .type "range", data := .fields #[.int lo t, .int hi u, .int 1 v] }).objs.size], _, _, H, rfl,
    I1.kept (t' := tk) fun b o e => Heap.get?_push_of_some _ e, turn_range _ lo (hi - lo).toNat, ?_, fun b hb => ?_, q⟩
  · have e1 : lo + ((0 : Nat) : Int) * 1 = lo := by simp
    have e2 : (((hi - lo).toNat : Nat) : Int) - ((0 : Nat) : Int) = Builtin.Range.rangeSize lo hi 1 := by rw [rangeSize_one]; split <;> omega
    show IsRangeIter _ _ (lo + ((0 : Nat) : Int) * 1) ((((hi - lo).toNat : Nat) : Int) - ((0 : Nat) : Int)) 1
    rw [e1, e2]
    exact Heap.get?_push_size _ rfl
  · have e : b = (s.heap.push { cls := .type "range", data := .fields #[.int lo t, .int hi u, .int 1 v] }).objs.size := by simpa using hb
    subst e
    exact I1.fpOk (Nat.le_refl _) (I1.hok.fresh (Nat.le_refl _))
noncomputable def iRng1 (ta : TA) : TI := fun σ H R => ta σ H fun vs H1 => ∃ j : Int, vs = [.int j] ∧ -(2 ^ 62) ≤ j ∧ j < 2 ^ 62 ∧ R (Itr 0 j.toNat) H1
theorem pi_range1 {a : Expr} {ta : TA} {p pos : Pos} (hg : Gl X "range") (hm : X.mg "range" = none) (ha : PA X [a] ta) (hs : starEach [a] X.env = [(false, eval a X.env)] := by rfl) : PI X tg (.Call (.Name "range" p) [a] [] pos) (iRng1 ta) := by
  intro pins s σ H R I h
  refine Call_ (ld_blt I hg hm boot_range (PyProof.Rows.callWith_type1 (thn (ha pos pins s σ H _ I h) fun us s1 ⟨vs, H1, I1, r1, q1⟩ => ?_) hs rfl))
  obtain ⟨j, e, q1, q2, q⟩ := q1
  subst e
  cases r1 with
  | cons r rr =>
    cases rr
    obtain ⟨t, rfl⟩ := r
    exact call_range_1 (range_it I1 (by omega) (by omega) q1 q2 (by simpa using q))

/-! ### for -/
/-- W: the invariant by the turn and a measure; N: what the body is to reach -/
noncomputable def tFor (wi : TI) (g : TG) (tb : TS) : TS := fun D σ H => wi σ H fun J H1 => ∃ W : Nat → Nat → St → Hp → Prop, (∃ m, W 0 m σ H1) ∧ ∀ i m σ H, W i m σ H →
  (J.stop i H ∧ D.nx σ H) ∨ (J.go i H ∧ ∃ N : St → Hp → Prop, (∀ σ' H', N σ' H' → ∃ m', m' < m ∧ W (i + 1) m' σ' H') ∧ ∀ x H', J.yld i H x H' → g x σ H' fun σ2 H2 => tb { D with nx := N, ct := N, bk := D.nx } σ2 H2)
/-- the records at fp as they stand -/
noncomputable def pinsAt (fp : List Addr) (h : Heap) : List (Addr × Obj) := fp.filterMap fun b => (h.get? b).map fun o => (b, o)
theorem mem_pinsAt {fp : List Addr} {h : Heap} {b : Addr} {o : Obj} (hb : b ∈ fp) (e : h.get? b = some o) : (b, o) ∈ pinsAt fp h := List.mem_filterMap.mpr ⟨b, hb, by rw [e]; rfl⟩
theorem of_pinsAt {fp : List Addr} {h : Heap} {p : Addr × Obj} (hp : p ∈ pinsAt fp h) : p.1 ∈ fp ∧ h.get? p.1 = some p.2 := by
  obtain ⟨b, hb, e⟩ := List.mem_filterMap.mp hp
  cases q : h.get? b with
  | none => rw [q] at e; cases e
  | some o =>
    rw [q] at e
    have e' : (b, o) = p := Option.some.inj e
    subst e'
    exact ⟨hb, q⟩
theorem Inv.pinned {pins : List (Addr × Obj)} {σ : St} {H : Hp} {s : Shared} {fp : List Addr} (I : Inv X pins σ H s) (hf : ∀ b ∈ fp, FpOk X pins H b) (ho : ∀ b ∈ fp, ∃ o, s.heap.get? b = some o ∧ ∀ v, o.data ≠ .cell v) : Inv X (pins ++ pinsAt fp s.heap) σ H s :=
  I.pins_of fun p hp => (List.mem_append.mp hp).elim (fun z => I.pin p (List.mem_append_right _ z)) fun z => by
    obtain ⟨hb, e⟩ := of_pinsAt z
    obtain ⟨f0, f1, f2, _⟩ := hf p.1 hb
    obtain ⟨o, e', d⟩ := ho p.1 hb
    rw [e] at e'; cases e'
    exact ⟨e, f0, f1, f2, d⟩
theorem Inv.unpinned {pins pl : List (Addr × Obj)} {σ : St} {H : Hp} {s : Shared} (I : Inv X (pins ++ pl) σ H s) : Inv X pins σ H s := I.pins_of fun p hp => I.pin p (List.mem_append_right _ (List.mem_append_left _ hp))
theorem ps_for {iter : Expr} {body : List Stmt} {wi : TI} {g : TG} {tb : TS} {pos : Pos} (hp : PassesOwn (model X.prog X.w) X.A X.env X.xe) (hc : X.calm = true) (hi : PI X tg iter wi) (hg : PG X tg g) (hb : PSs X body tb)
    (hs : ∀ x, foldedSetIterable iter X.env x = pure x := by intro _; rfl) : PS X (.For tg iter body [] pos) (tFor wi g tb) := by
  intro pins s σ H D I h
  refine wpAny_For (thn (hi pins s σ H _ I h) fun v s1 h1 => thn h1 fun itv s2 h2 => ?_) hs
  obtain ⟨it, fp, tn, J, H2, e, I2, T, st2, f2, W, ⟨m0, w0⟩, turn⟩ := h2
  subst e
  -- what stays true of the iterator's objects through the loop
  have stat : ∀ {H' : Hp}, (∀ b ∈ fp, H' b = none) → ∀ b ∈ fp, FpOk X pins H' b := fun hn b hb => ⟨hn b hb, (f2 b hb).2⟩
  refine codeAny_forLoop_any (fun n s' => ∃ i σ' H', Inv X pins σ' H' s' ∧ tn i s'.heap ∧ (∀ b ∈ fp, H' b = none) ∧ W i n σ' H') ?_ m0 ⟨0, σ, H2, I2, st2, fun b hb => (f2 b hb).1, w0⟩
  rintro n s3 ⟨i, σ3, H3, I3, st3, fr3, w3⟩
  rcases turn i n σ3 H3 w3 with ⟨stop, qn⟩ | ⟨go, N, hN, step⟩
  · refine wpAny_passesOwn hp (thn (T.done X rfl rfl rfl hc i pins s3 σ3 H3 X.xe I3 (stat fr3) st3 stop) fun r s4 ⟨hr, I4⟩ => ?_)
    subst hr
    exact wpAny_execs_nil ⟨σ3, H3, I4, qn⟩
  · refine wpAny_passesOwn hp (thn (T.item X rfl rfl rfl hc i pins s3 σ3 H3 X.xe I3 (stat fr3) st3 go) fun r s4 ⟨u, hr, h4⟩ => ?_)
    subst hr
    refine wpAny_passesOwn hp (thn h4 fun _ s5 ⟨x, H5, I5, r5, y5, st5, fr5⟩ => ?_)
    have I5' := I5.pinned (stat fr5) (T.obj _ _ st5)
    refine wpAny_passesOwn hp (thn (hg _ s5 σ3 H5 x u _ I5' r5 (step x H5 y5)) fun _ s6 ⟨σ6, H6, I6, q6⟩ => ?_)
    refine wpAny_passesOwn hp (thn (hb _ s6 σ6 H6 _ I6 q6) fun f s7 q7 => ?_)
    have again : ∀ {σ7 : St} {H7 : Hp}, Inv X (pins ++ pinsAt fp s5.heap) σ7 H7 s7 → N σ7 H7 → ∃ m, m < n ∧ ∃ i σ' H', Inv X pins σ' H' s7 ∧ tn i s7.heap ∧ (∀ b ∈ fp, H' b = none) ∧ W i m σ' H' := fun {σ7 H7} I7 n7 => by
      obtain ⟨m', hm, w7⟩ := hN σ7 H7 n7
      refine ⟨m', hm, i + 1, σ7, H7, I7.unpinned, T.keep _ _ _ st5 fun b hb o e => (I7.pin (b, o) (List.mem_append_right _ (List.mem_append_right _ (mem_pinsAt hb e)))).1, fun b hb => ?_, w7⟩
      obtain ⟨o, e, d⟩ := T.obj _ _ st5 b hb
      exact (I7.pin (b, o) (List.mem_append_right _ (List.mem_append_right _ (mem_pinsAt hb e)))).2.1
    cases f with
    | next => obtain ⟨σ7, H7, I7, n7⟩ := q7; exact again I7 n7
    | cont => obtain ⟨σ7, H7, I7, n7⟩ := q7; exact again I7 n7
    | brk => obtain ⟨σ7, H7, I7, q7⟩ := q7; exact ⟨σ7, H7, I7.unpinned, q7⟩
    | ret v => obtain ⟨x7, σ7, H7, I7, r7, q7⟩ := q7; exact ⟨x7, σ7, H7, I7.unpinned, r7, q7⟩
end

/-! ### the forms one uses -/
end L2

namespace L2
open PySem PySem.Spec PyProof.Rows

noncomputable abbrev R2 := V → V → Hp → VK → Prop
/-- a two-place operation on values: f is binaryOp op, inplaceOp op or compareOp op -/
noncomputable def OpR (X : Cx) (f : Value → Value → Sem Value) (r : R2) : Prop :=
  ∀ (pins : List (Addr × Obj)) (s : Shared) (σ : St) (H : Hp) (x y : V) (v u : Value) (Q : VK), Inv X pins σ H s → RelV x v → RelV y u → r x y H Q →
    wpAny (model X.prog X.w) X.A (f v u) (EP X pins σ Q) X.xe s
/-- a one-place operation -/
noncomputable def UnR (X : Cx) (f : Value → Sem Value) (r : V → Hp → VK → Prop) : Prop :=
  ∀ (pins : List (Addr × Obj)) (s : Shared) (σ : St) (H : Hp) (x : V) (v : Value) (Q : VK), Inv X pins σ H s → RelV x v → r x H Q →
    wpAny (model X.prog X.w) X.A (f v) (EP X pins σ Q) X.xe s
/-- a call of a value that is known (a builtin, a type) with values -/
noncomputable def CallR (X : Cx) (f : Value) (r : List V → Hp → VK → Prop) : Prop :=
  ∀ (pins : List (Addr × Obj)) (s : Shared) (σ : St) (H : Hp) (xs : List V) (us : List Value) (Q : VK), Inv X pins σ H s → Vals xs us → r xs H Q →
    wpAny (model X.prog X.w) X.A (call f us) (EP X pins σ Q) X.xe s

noncomputable def tOp (r : R2) (ta tb : TE) : TE := fun σ H Q => ta σ H fun x H1 => tb σ H1 fun y H2 => r x y H2 Q
noncomputable def tUn (r : V → Hp → VK → Prop) (ta : TE) : TE := fun σ H Q => ta σ H fun x H1 => r x H1 Q
/-- ints in, under C, and a value out -/
noncomputable def rI (C : Int → Int → Prop) (g : Int → Int → V) : R2 := fun x y H Q => ∃ i j, x = .int i ∧ y = .int j ∧ C i j ∧ Q (g i j) H
noncomputable def rI0 (g : Int → Int → V) : R2 := fun x y H Q => ∃ i j, x = .int i ∧ y = .int j ∧ Q (g i j) H
noncomputable def rU (g : Int → V) : V → Hp → VK → Prop := fun x H Q => ∃ i, x = .int i ∧ Q (g i) H

section
variable {X : Cx} {a b c : Expr} {ta tb tc : TE} {pos : Pos}

theorem binT (ha : PE X a ta) (hb : PE X b tb) {pins : List (Addr × Obj)} {s : Shared} {σ : St} {H : Hp} {R : V → V → Hp → Prop} (I : Inv X pins σ H s)
    (h : ta σ H fun x H1 => tb σ H1 fun y H2 => R x y H2) {Q : Value → Shared → Prop} {f : Value → Value → Sem Value}
    (hf : ∀ v u s2 x y H2, Inv X pins σ H2 s2 → RelV x v → RelV y u → R x y H2 → wpAny (model X.prog X.w) X.A (f v u) Q X.xe s2) :
    wpAny (model X.prog X.w) X.A (eval a X.env) (fun v s₁ => wpAny (model X.prog X.w) X.A (eval b X.env) (fun u s₂ => wpAny (model X.prog X.w) X.A (f v u) Q X.xe s₂) X.xe s₁) X.xe s := by
  refine thn (ha pins s σ H _ I h) fun v s1 ⟨x, H1, I1, r1, q1⟩ => ?_
  refine thn (hb pins s1 σ H1 _ I1 q1) fun u s2 ⟨y, H2, I2, r2, q2⟩ => ?_
  exact hf v u s2 x y H2 I2 r1 r2 q2

theorem pe_op {op : Operator} {r : R2} (ho : OpR X (binaryOp op) r) (ha : PE X a ta) (hb : PE X b tb) : PE X (.BinOp a op b pos) (tOp r ta tb) := by
  intro pins s σ H Q I h
  exact wpAny_BinOp (binT ha hb I h fun v u s2 x y H2 I2 rx ry q => ho pins s2 σ H2 x y v u Q I2 rx ry q)
theorem pe_un {op : UnaryOp} {r : V → Hp → VK → Prop} (ho : UnR X (unaryOp op) r) (ha : PE X a ta) : PE X (.UnaryOp op a pos) (tUn r ta) := by
  intro pins s σ H Q I h
  exact UnaryOp_ (thn (ha pins s σ H _ I h) fun v s1 ⟨x, H1, I1, r1, q1⟩ => ho pins s1 σ H1 x v Q I1 r1 q1)

/-! ### ints -/
theorem opI {f : Value → Value → Sem Value} {C : Int → Int → Prop} {g : Int → Int → Int}
    (rule : ∀ (i j : Int) (t u : Tok) (s : Shared) (Q : Value → Shared → Prop) (E : Value → Shared → Prop), C i j → Q (.int (g i j) s.toks) { s with toks := s.toks + 1 } → wpAny (model X.prog X.w) X.A (f (.int i t) (.int j u)) Q E s) :
    OpR X f (rI C fun i j => .int (g i j)) := by
  intro pins s σ H x y v u Q I rx ry h
  obtain ⟨i, j, rfl, rfl, hc, q⟩ := h
  obtain ⟨t, rfl⟩ := rx
  obtain ⟨t', rfl⟩ := ry
  exact rule i j t t' s _ _ hc ⟨.int (g i j), H, I.tok _, ⟨_, rfl⟩, q⟩
theorem opI0 {f : Value → Value → Sem Value} {g : Int → Int → Int}
    (rule : ∀ (i j : Int) (t u : Tok) (s : Shared) (Q : Value → Shared → Prop) (E : Value → Shared → Prop), Q (.int (g i j) s.toks) { s with toks := s.toks + 1 } → wpAny (model X.prog X.w) X.A (f (.int i t) (.int j u)) Q E s) :
    OpR X f (rI0 fun i j => .int (g i j)) := by
  intro pins s σ H x y v u Q I rx ry h
  obtain ⟨i, j, rfl, rfl, q⟩ := h
  obtain ⟨t, rfl⟩ := rx
  obtain ⟨t', rfl⟩ := ry
  exact rule i j t t' s _ _ ⟨.int (g i j), H, I.tok _, ⟨_, rfl⟩, q⟩
theorem opB0 {f : Value → Value → Sem Value} {g : Int → Int → Bool}
    (rule : ∀ (i j : Int) (t u : Tok) (s : Shared) (Q : Value → Shared → Prop) (E : Value → Shared → Prop), Q (.bool (g i j)) s → wpAny (model X.prog X.w) X.A (f (.int i t) (.int j u)) Q E s) :
    OpR X f (rI0 fun i j => .bl (g i j)) := by
  intro pins s σ H x y v u Q I rx ry h
  obtain ⟨i, j, rfl, rfl, q⟩ := h
  obtain ⟨t, rfl⟩ := rx
  obtain ⟨t', rfl⟩ := ry
  exact rule i j t t' s _ _ ⟨.bl (g i j), H, I, rfl, q⟩

noncomputable def CPow (i j : Int) : Prop := 0 ≤ j ∧ j ≤ 1000000 ∧ i.natAbs < 2 ^ 64
noncomputable def CMul (i j : Int) : Prop := (-(2 ^ 64) < i ∧ i < 2 ^ 64) ∨ (-(2 ^ 64) < j ∧ j < 2 ^ 64)
theorem CMul.ok {i j : Int} (h : CMul i j) : IntMulOk i j := by
  rcases h with ⟨h1, h2⟩ | ⟨h1, h2⟩
  · exact .of_left (intBits_le_64 h1 h2)
  · exact .of_right (intBits_le_64 h1 h2)

theorem op_add : OpR X (binaryOp .Add) (rI0 fun i j => .int (i + j)) := opI0 fun _ _ _ _ _ _ _ q => add_int q
theorem op_sub : OpR X (binaryOp .Sub) (rI0 fun i j => .int (i - j)) := opI0 fun _ _ _ _ _ _ _ q => sub_int q
theorem op_mul : OpR X (binaryOp .Mult) (rI CMul fun i j => .int (i * j)) := opI fun _ _ _ _ _ _ _ hc q => mul_int q hc.ok
/-- % by a positive divisor of any size -/
theorem op_mod : OpR X (binaryOp .Mod) (rI (fun _ j => 0 < j) fun i j => .int (i % j)) := opI fun i j _ _ _ _ _ hc q => by
  have h1 : (0 : Int) < j := hc
  exact mod_int' (by omega) (by rw [Int.fmod_eq_emod_of_nonneg i (by omega)]; exact q)
theorem op_pow : OpR X (binaryOp .Pow) (rI CPow fun i j => .int (i ^ j.toNat)) := opI fun _ _ _ _ _ _ _ hc q => pow_int_small hc.1 hc.2.1 hc.2.2 q


theorem unI {f : Value → Sem Value} {g : Int → Int}
    (rule : ∀ (i : Int) (t : Tok) (s : Shared) (Q : Value → Shared → Prop) (E : Value → Shared → Prop), Q (.int (g i) s.toks) { s with toks := s.toks + 1 } → wpAny (model X.prog X.w) X.A (f (.int i t)) Q E s) :
    UnR X f (rU fun i => .int (g i)) := by
  intro pins s σ H x v Q I rx h
  obtain ⟨i, rfl, q⟩ := h
  obtain ⟨t, rfl⟩ := rx
  exact rule i t s _ _ ⟨.int (g i), H, I.tok _, ⟨_, rfl⟩, q⟩
theorem un_neg : UnR X (unaryOp .USub) (rU fun i => .int (-i)) := unI fun _ _ _ _ _ q => neg_int q

/-! ### bools among ints: n += (a < b) -/
end

/-! ### comparisons -/


section
variable {X : Cx} {a b c : Expr} {ta tb tc : TE} {pos : Pos}
theorem fin_bl {pins : List (Addr × Obj)} {σ : St} {H : Hp} {s : Shared} {Q : VK} {k k' : Bool} (I : Inv X pins σ H s) (q : Q (.bl k) H) (e : k = k') : EP X pins σ Q (.bool k') s := by
  subst e
  exact ⟨.bl k, H, I, rfl, q⟩

theorem op_lt : OpR X (compareOp .Lt) (rI0 fun i j => .bl (decide (i < j))) := opB0 fun _ _ _ _ _ _ _ q => lt_int q
theorem op_le : OpR X (compareOp .LtE) (rI0 fun i j => .bl (decide (i ≤ j))) := opB0 fun _ _ _ _ _ _ _ q => le_int q
theorem op_gt : OpR X (compareOp .Gt) (rI0 fun i j => .bl (decide (j < i))) := opB0 fun _ _ _ _ _ _ _ q => gt_int q
theorem op_ge : OpR X (compareOp .GtE) (rI0 fun i j => .bl (decide (j ≤ i))) := opB0 fun _ _ _ _ _ _ _ q => ge_int q
/-- the one string within the other -/
theorem op_in_str : OpR X (compareOp .In) (fun x y H Q => ∃ i j, x = .str i ∧ y = .str j ∧ Q (.bl (!(Builtin.Str.occurrences j i 0 j.length 1).isEmpty)) H) := by
  intro pins s σ H x y v u Q I rx ry h
  obtain ⟨i, j, rfl, rfl, q⟩ := h
  obtain ⟨t, rfl⟩ := rx
  obtain ⟨t', rfl⟩ := ry
  exact in_str (fin_bl I q rfl)

/-- is None, is not None: the right side a value none -/
theorem op_isN : OpR X (compareOp .Is) (fun x y H Q => y = .non ∧ Q (.bl (decide (x = .non))) H) := by
  intro pins s σ H x y v u Q I rx ry h
  obtain ⟨rfl, q⟩ := h
  cases ry
  refine is_none_gen (fin_bl I q ?_)
  cases x <;> first
    | (cases rx; rfl)
    | (obtain ⟨t, rfl⟩ := rx; rfl)
theorem op_notN : OpR X (compareOp .IsNot) (fun x y H Q => y = .non ∧ Q (.bl (!decide (x = .non))) H) := by
  intro pins s σ H x y v u Q I rx ry h
  obtain ⟨rfl, q⟩ := h
  cases ry
  refine isnot_none_gen (fin_bl I q ?_)
  cases x <;> first
    | (cases rx; rfl)
    | (obtain ⟨t, rfl⟩ := rx; rfl)



theorem nomark (b : Expr) {op : CmpOp} (h : op ≠ .In := by decide) (h2 : op ≠ .NotIn := by decide) : behindInMarks op b = false := by
  have e1 : (op == CmpOp.In) = false := by cases op <;> first | rfl | exact absurd rfl h
  have e2 : (op == CmpOp.NotIn) = false := by cases op <;> first | rfl | exact absurd rfl h2
  cases b <;> simp [behindInMarks, e1, e2]
/-- a comparison as a value; hm: nomark b, or (for in, not in) by with_unfolding_all rfl -/
theorem pe_cmpR {op : CmpOp} {r : R2} (ho : OpR X (compareOp op) r) (ha : PE X a ta) (hb : PE X b tb) (hm : behindInMarks op b = false) : PE X (.Compare a [op] [b] pos) (tOp r ta tb) := by
  intro pins s σ H Q I h
  exact wpAny_Compare1 (binT ha hb I h fun v u s2 x y H2 I2 rx ry q => ho pins s2 σ H2 x y v u Q I2 rx ry q) hm
/-- a reading of a value as a test -/
noncomputable def tTest (t : TE) : TT := fun σ H Q => t σ H fun x H' => ∃ k, x = .bl k ∧ Q k H'
theorem pt_cmpR {op : CmpOp} {r : R2} (ho : OpR X (compareOp op) r) (ha : PE X a ta) (hb : PE X b tb) (hm : behindInMarks op b = false) : PT X (.Compare a [op] [b] pos) (tTest (tOp r ta tb)) := by
  intro pins s σ H Q I h
  refine wpAny_isTrue_Compare1 (thn (ha pins s σ H _ I h) fun v s1 ⟨x, H1, I1, r1, q1⟩ => thn (hb pins s1 σ H1 _ I1 q1) fun u s2 ⟨y, H2, I2, r2, q2⟩ =>
    thn (ho pins s2 σ H2 x y v u _ I2 r1 r2 q2) fun c s3 ⟨z, H3, I3, r3, k, e, q3⟩ => ?_) hm
  subst e
  cases r3
  exact wpAny_truthy_bool ⟨H3, I3, q3⟩
/-- a op1 b op2 c -/
noncomputable def tChain (r r' : R2) (ta tb tc : TE) : TE := fun σ H Q => ta σ H fun x H1 => tb σ H1 fun y H2 => r x y H2 fun z H3 => ∃ k, z = .bl k ∧
  (if k = true then tc σ H3 fun w' H4 => r' y w' H4 Q else Q (.bl false) H3)
theorem pe_chain {op op' : CmpOp} {r r' : R2} (ho : OpR X (compareOp op) r) (ho' : OpR X (compareOp op') r') (ha : PE X a ta) (hb : PE X b tb) (hc : PE X c tc)
    (hm : lastMarks [op, op'] [b, c] = false := by with_unfolding_all rfl) : PE X (.Compare a [op, op'] [b, c] pos) (tChain r r' ta tb tc) := by
  intro pins s σ H Q I h
  refine Compare_chain (thn (ha pins s σ H _ I h) fun v s1 ⟨x, H1, I1, r1, q1⟩ => chain_link (thn (hb pins s1 σ H1 _ I1 q1) fun u s2 ⟨y, H2, I2, r2, q2⟩ =>
    thn (ho pins s2 σ H2 x y v u _ I2 r1 r2 q2) fun d s3 ⟨z, H3, I3, r3, k, e, q3⟩ => ?_)) hm
  subst e
  cases r3
  refine wpAny_truthy_bool ?_
  cases k with
  | false => exact ite_ff ⟨.bl false, H3, I3, rfl, q3⟩
  | true => exact ite_tt (chain_last (thn (hc pins s3 σ H3 _ I3 q3) fun w' s4 ⟨z', H4, I4, r4, q4⟩ => ho' pins s4 σ H4 y z' u w' Q I4 r2 r4 q4))
theorem pt_chain {op op' : CmpOp} {r r' : R2} (ho : OpR X (compareOp op) r) (ho' : OpR X (compareOp op') r') (ha : PE X a ta) (hb : PE X b tb) (hc : PE X c tc)
    (hm : lastMarks [op, op'] [b, c] = false := by with_unfolding_all rfl) : PT X (.Compare a [op, op'] [b, c] pos) (tTest (tChain r r' ta tb tc)) := by
  intro pins s σ H Q I h
  refine isTrue_chain (thn (ha pins s σ H _ I h) fun v s1 ⟨x, H1, I1, r1, q1⟩ => test_link (thn (hb pins s1 σ H1 _ I1 q1) fun u s2 ⟨y, H2, I2, r2, q2⟩ =>
    thn (ho pins s2 σ H2 x y v u _ I2 r1 r2 q2) fun d s3 ⟨z, H3, I3, r3, k, e, q3⟩ => ?_)) hm
  subst e
  cases r3
  refine wpAny_truthy_bool ?_
  cases k with
  | false =>
    obtain ⟨k', e', q'⟩ := q3
    cases e'
    exact ite_ff ⟨H3, I3, q'⟩
  | true =>
    refine ite_tt (test_last (thn (hc pins s3 σ H3 _ I3 q3) fun w' s4 ⟨z', H4, I4, r4, q4⟩ => thn (ho' pins s4 σ H4 y z' u w' _ I4 r2 r4 q4) fun d' s5 ⟨z2, H5, I5, r5, k2, e2, q5⟩ => ?_))
    subst e2
    cases r5
    exact wpAny_truthy_bool ⟨H5, I5, q5⟩

/-! ### truth -/
theorem line63 : (sizeLine : Nat) < 2 ^ 63 := by rw [sizeLine_eq]; decide

/-! ### strs and bytes -/
theorem op_add_str : OpR X (binaryOp .Add) (fun x y H Q => ∃ i j, x = .str i ∧ y = .str j ∧ i.length + j.length ≤ sizeLine ∧ Q (.str (i ++ j)) H) := by
  intro pins s σ H x y v u Q I rx ry h
  obtain ⟨i, j, rfl, rfl, hz, q⟩ := h
  obtain ⟨t, rfl⟩ := rx
  obtain ⟨t', rfl⟩ := ry
  exact add_str (fun t' tk => ⟨.str (i ++ j), H, I.tok _, ⟨_, rfl⟩, q⟩) hz


/-! ### scalar builtins, by CallR -/
theorem vals1 {x : V} {us : List Value} (r : Vals [x] us) : ∃ u, us = [u] ∧ RelV x u := by
  cases r with
  | cons r1 r2 => cases r2; exact ⟨_, rfl, r1⟩
theorem vals2 {x y : V} {us : List Value} (r : Vals [x, y] us) : ∃ u w', us = [u, w'] ∧ RelV x u ∧ RelV y w' := by
  cases r with
  | cons r1 r2 =>
    cases r2 with
    | cons r3 r4 => cases r4; exact ⟨_, _, rfl, r1, r3⟩
theorem call_max2 (hc : X.calm = true) : CallR X (.builtin "max") (fun xs H Q => ∃ i j, xs = [.int i, .int j] ∧ Q (.int (if j > i then j else i)) H) := by
  intro pins s σ H xs us Q I r h
  obtain ⟨i, j, rfl, q⟩ := h
  obtain ⟨u, w', rfl, ⟨t, rfl⟩, ⟨t', rfl⟩⟩ := vals2 r
  refine max_two_ints (I.ok.hd hc) fun h' tk k => ⟨_, H, I.kept k, ?_, q⟩
  by_cases hj : j > i
  · rw [if_pos hj, if_pos hj]; exact ⟨_, rfl⟩
  · rw [if_neg hj, if_neg hj]; exact ⟨_, rfl⟩
theorem call_int1 : CallR X (.type "int") (fun xs H Q => (∃ i, xs = [.int i] ∧ Q (.int i) H) ∨ ∃ k, xs = [.bl k] ∧ Q (.int (if k then 1 else 0)) H) := by
  intro pins s σ H xs us Q I r h
  rcases h with ⟨i, rfl, q⟩ | ⟨k, rfl, q⟩
  · obtain ⟨u, rfl, t, rfl⟩ := vals1 r
    exact call_int_int ⟨.int i, H, I, ⟨_, rfl⟩, q⟩
  · obtain ⟨u, rfl, r1⟩ := vals1 r
    cases r1
    exact call_int_bool ⟨.int (if k then 1 else 0), H, I.tok _, ⟨_, rfl⟩, q⟩
theorem call_str_int : CallR X (.type "str") (fun xs H Q => ∃ i, xs = [.int i] ∧ i.natAbs.log2 < 1920 ∧ Q (.str (toString i)) H) := by
  intro pins s σ H xs us Q I r h
  obtain ⟨i, rfl, hz, q⟩ := h
  obtain ⟨u, rfl, t, rfl⟩ := vals1 r
  exact PySem.P.str_of_int hz ⟨.str _, H, I.tok _, ⟨_, rfl⟩, q⟩
/-- len of a str, a bytes, a list, a tuple -/
noncomputable def LenV (K : PySem.W.Frag) (x : V) (H : Hp) (n : Nat) : Prop :=
  match x with
  | .str y => y.length ≤ sizeLine ∧ n = y.length
  | .byt y => y.size ≤ sizeLine ∧ n = y.size
  | .ref p => (∃ xs, SqL K H p xs ∧ n = xs.length) ∨ ∃ xs, SqT K H p xs ∧ n = xs.length
  | _ => False
theorem call_len : CallR X (.builtin "len") (fun xs H Q => ∃ x n, xs = [x] ∧ LenV X.K x H n ∧ Q (.int n) H) := by
  intro pins s σ H xs us Q I r h
  obtain ⟨x, n, rfl, e, q⟩ := h
  obtain ⟨u, rfl, rx⟩ := vals1 r
  have hl := line63
  have hs : sizeLine = 16777216 := sizeLine_eq
  cases x with
  | str y =>
    obtain ⟨t, rfl⟩ := rx
    obtain ⟨hy, e'⟩ : y.length ≤ sizeLine ∧ n = y.length := e
    subst e'
    exact len_str (by omega) ⟨.int _, H, I.tok _, ⟨_, rfl⟩, q⟩
  | byt y =>
    obtain ⟨t, rfl⟩ := rx
    obtain ⟨hy, e'⟩ : y.size ≤ sizeLine ∧ n = y.size := e
    subst e'
    exact PySem.W.len_bytes (by omega) ⟨.int _, H, I.tok _, ⟨_, rfl⟩, q⟩
  | ref p =>
    cases rx
    have e' : (∃ xs, SqL X.K H p xs ∧ n = xs.length) ∨ ∃ xs, SqT X.K H p xs ∧ n = xs.length := e
    rcases e' with ⟨xs, hx, e'⟩ | ⟨xs, hx, e'⟩
    · subst e'
      obtain ⟨its, r', pl, hz⟩ := I.list hx
      have hlen := r'.length
      exact Calls.call_len_list pl.isList (by simp only [List.size_toArray]; omega) ⟨.int xs.length, H, I.tok _, ⟨_, by simp only [List.size_toArray]; rw [hlen]⟩, q⟩
    · subst e'
      obtain ⟨its, r', pl, hz⟩ := I.tuple hx
      have hlen := r'.length
      exact len_tuple pl (by simp only [List.size_toArray]; omega) ⟨.int xs.length, H, I.tok _, ⟨_, by simp only [List.size_toArray]; rw [hlen]⟩, q⟩
  | _ => exact (show False from e).elim
end
end L2

namespace L2
open PySem PySem.Spec PyProof.Rows

/-! ### an instance, its attributes a map -/
structure ObjM (h : Heap) (x dx C : Addr) (mA : Str → Option Value) : Prop where
  obj : h.get? x = some (PySem.W.instObj C dx)
  ns : h.Ns1 dx mA
  ne : dx ≠ x



section
variable {prog : Program} {w : World} {A : Around} {E : Value → Shared → Prop} {s : Shared} {K : PySem.W.Frag} {x dx C f : Addr} {mA : Str → Option Value} {name : Str} {v : Value}





end

/-! ### the attributes as a list of pairs -/


section
variable {P : Program} {w : World} {H H' : Hp} {h h' : Heap} {a C dx : Addr} {fs fs' : List (Str × V)}
end

/-! ### what of the text a class must have -/
structure Cls (K : PySem.W.Frag) (C : Addr) : Prop where
  pg : PySem.W.plainGet K C Str.empty = true
  hd : PySem.W.hasDictIn K C = true
  po : PySem.W.plainOver K C = true
  sa : PySem.W.findIn K (.ref C) "__setattr__" = some (some (.builtin "object.__setattr__"))
/-- a constant of the class -/
structure Con (K : PySem.W.Frag) (C : Addr) (f : Str) (v : V) (u : Value) : Prop where
  at_ : PySem.W.findIn K (.ref C) f = some (some u)
  rel : RelV v u
  get : PySem.W.specialIn K u "__get__" = some none
  cp : PySem.W.copiedNames.contains f = false
/-- a method: a plain def of the class or of one above it -/
structure Meth (K : PySem.W.Frag) (C : Addr) (m : Str) (f : Addr) : Prop where
  at_ : PySem.W.findIn K (.ref C) m = some (some (.ref f))
  fn : PySem.W.isFn K (.ref f) = true
  kp : PySem.W.keepIn K (.ref f) = true

section
variable {X : Cx} {pins : List (Addr × Obj)} {σ : St} {H : Hp} {s : Shared} {a C dx : Addr} {fs : List (Str × V)} {f : Str} {v : V} {A : Around} {E : Value → Shared → Prop}






end

/-! ### readings and rules -/

section
variable {X : Cx} {o e value : Expr} {f : Str} {pos pos' tpos : Pos} {ta tv : TE}

end

/-! ### isinstance -/
section
variable {X : Cx} {pins : List (Addr × Obj)} {σ : St} {H : Hp} {s : Shared} {A : Around} {E : Value → Shared → Prop} {Q : Value → Shared → Prop} {c : Value} {b : Bool}
/-- the type of a value, as the fragment's deciders take it; for an instance its class -/
inductive TyOf (K : PySem.W.Frag) (H : Hp) : V → Value → Prop where
  | non : TyOf K H .non (.type "NoneType")
  | bl (x : Bool) : TyOf K H (.bl x) (.type "bool")
  | int (i : Int) : TyOf K H (.int i) (.type "int")
  | str (x : Str) : TyOf K H (.str x) (.type "str")
  | flt (x : UInt64) : TyOf K H (.flt x) (.type "float")
  | lst {a : Addr} {xs : List V} (e : H a = some (.lst xs)) : TyOf K H (.ref a) (.type "list")
  | frz {a : Addr} {o : Obj} {xs : List V} (e : H a = some (.frz o (.lst xs))) : TyOf K H (.ref a) (.type "list")
  | tup {a : Addr} {xs : List V} (e : H a = some (.tup xs)) : TyOf K H (.ref a) (.type "tuple")
  | dK {a : Addr} {kvs : List (Key × V)} (e : H a = some (.dK kvs)) : TyOf K H (.ref a) (.type "dict")
  | dT {a : Addr} {kvs : List (List Key × V)} (e : H a = some (.dT kvs)) : TyOf K H (.ref a) (.type "dict")
  | ins {a C dx : Addr} {fs : List (Str × V)} (e : H a = some (.ins C dx fs)) (cl : Cls K C) (ha : PySem.W.findIn K (.ref C) "__class__" = some (some (.builtin "object.__class__")))
      (hn : PySem.W.specialIn K (.builtin "object.__class__") "__get__" = some (some (.builtin "getset_descriptor.__get__"))) (htk : PySem.W.takesIn K (.builtin "object.__class__") = some true)
      (hm : PySem.W.mroIn K C (.type "object") = some true) : TyOf K H (.ref a) (.ref C)
end
end L2

namespace L2
open PySem PySem.Spec PyProof.Rows

/-! ### room -/
structure Room (k : Nat) (A : Around) : Prop where
  hd : A.handled = none
  dp : A.depth + 3 * k + 5 < recursionLimit
  un : A.units + 16 * k + 200 < cLine
theorem Room.mono {j k : Nat} {A : Around} (r : Room k A) (h : j ≤ k) : Room j A := ⟨r.hd, by have := r.dp; omega, by have := r.un; omega⟩
theorem Room.deeper {k : Nat} {A : Around} (r : Room (k + 1) A) (env : Env) : Room k (A.deeper env) :=
  ⟨r.hd, by have := r.dp; show A.depth + 1 + 3 * k + 5 < _; omega, by have := r.un; show A.units + 3 + 16 * k + 200 < _; omega⟩
theorem Room.depth {k : Nat} {A : Around} (r : Room k A) : A.depth < recursionLimit := by have := r.dp; omega
theorem Room.units {k : Nat} {A : Around} (r : Room k A) : A.units + 64 < cLine := by have := r.un; omega

/-! ### argument lists and displays -/
noncomputable def tNil : TA := fun _ H Q => Q [] H
noncomputable def tCons (ta : TE) (tr : TA) : TA := fun σ H Q => ta σ H fun x H1 => tr σ H1 fun xs H2 => Q (x :: xs) H2
section
variable {X : Cx} {e : Expr} {es : List Expr} {te : TE} {t : TA} {pos : Pos}
theorem pa_nil : PA X [] tNil := fun _ _ _ _ H Q I h => Calls.spliced_nil ⟨[], H, I, .nil, h⟩
theorem pa_cons (ha : PE X e te) (hr : PA X es t) (hs : starEach (e :: es) X.env = (false, eval e X.env) :: starEach es X.env := by rfl) : PA X (e :: es) (tCons te t) := by
  intro pos pins s σ H Q I h
  rw [hs]
  show wpAny _ _ (spliced ((false, eval e X.env) :: backTo pos (starEach es X.env))) _ _ s
  refine Calls.spliced_cons (thn (ha pins s σ H _ I h) fun u s1 ⟨x, H1, I1, r1, q1⟩ => ?_)
  exact thn (hr pos pins s1 σ H1 _ I1 q1) fun us s2 ⟨xs, H2, I2, r2, q2⟩ => ⟨x :: xs, H2, I2, .cons r1 r2, q2⟩

/-- a tuple, a list of written items -/
noncomputable def tTup (t : TA) : TE := fun σ H Q => t σ H fun xs H1 => xs.length ≤ sizeLine ∧ ∀ p, H1 p = none → Q (.ref p) (upd H1 p (.tup xs))
noncomputable def tLst (t : TA) : TE := fun σ H Q => t σ H fun xs H1 => xs.length ≤ sizeLine ∧ ∀ p, H1 p = none → Q (.ref p) (upd H1 p (.lst xs))
theorem pe_tup {x1} (h : PA X es t) : PE X (.Tuple es x1 pos) (tTup t) := by
  intro pins s σ H Q I hq
  refine wpAny_Tuple_spliced (thn (h pos pins s σ H _ I hq) fun us s1 ⟨xs, H1, I1, r, z, q⟩ => ⟨by rw [← r.length]; exact z, ?_⟩)
  have hf : H1 s1.heap.objs.size = none := I1.hok.fresh (Nat.le_refl _)
  refine ⟨.ref s1.heap.objs.size, upd H1 s1.heap.objs.size (.tup xs), I1.laid (t' := s1.toks) (fun b u e => Heap.get?_push_of_some _ e) (Nat.le_refl _) ?_, rfl, q _ hf⟩
  exact ⟨z, us, r, ⟨_, Heap.get?_push_size _ rfl, rfl, _, rfl⟩⟩
theorem pe_lst (h : PA X es t) : PE X (.List es pos) (tLst t) := by
  intro pins s σ H Q I hq
  refine wpAny_List_spliced (thn (h pos pins s σ H _ I hq) fun us s1 ⟨xs, H1, I1, r, z, q⟩ => ⟨by rw [← r.length]; exact z, ?_⟩)
  have hf : H1 s1.heap.objs.size = none := I1.hok.fresh (Nat.le_refl _)
  refine ⟨.ref s1.heap.objs.size, upd H1 s1.heap.objs.size (.lst xs), I1.laid (t' := s1.toks) (fun b u e => Heap.get?_push_of_some _ e) (Nat.le_refl _) ?_, rfl, q _ hf⟩
  exact ⟨z, us, 0, r, Heap.get?_push_size _ rfl⟩
end

/-! ### what a def promises -/
/-- a def's promise: the bound arguments in the parameters' order, the heap, the wanted end, the wanted exception -/
noncomputable abbrev Sp := List V → Hp → VK → XK → Prop
/-- how an exception lies behind a call (file 08 gives it): the callers' frames, abstract heap and state ahead of the call, the wish, the exception, the state -/
noncomputable abbrev CXT := List Env → Hp → Shared → XK → Value → Shared → Prop

/-- the state at a call -/
structure Env0 (P : Program) (w : World) (K : PySem.W.Frag) (mg : Str → Option Value) (base : Heap) (A : Around) (outer : List Env) (s : Shared) (H : Hp) : Prop where
  frames : A.frames = some outer
  mod : Mod K mg base
  bs : ∀ b o, base.get? b = some o → s.heap.get? b = some o ∧ H b = none
  bsz : base.objs.size ≤ s.heap.objs.size
  funs : s.heap.FunFrames base outer
  frf : ∀ b ∈ frs outer, H b = none
  hok : HOk P w H s.heap
  bare : AllBare s.gens
/-- a call's end -/
noncomputable def CE (outer : List Env) (P : Program) (w : World) (H : Hp) (s : Shared) (Q : VK) (u : Value) (s' : Shared) : Prop :=
  ∃ v H', s'.os = s.os ∧ AllBare s'.gens ∧ Un (frs outer) [] H H' s.heap s'.heap ∧ HOk P w H' s'.heap ∧ RelV v u ∧ Q v H'
noncomputable def CR (CX : CXT) (outer : List Env) (P : Program) (w : World) (H : Hp) (s : Shared) (Q : VK) (E : XK) (r : Result) (s' : Shared) : Prop :=
  match r with
  | .ok (.ret u) => CE outer P w H s Q u s'
  | .ok _ => False
  | .error e => CX outer H s E e s'
structure FnOk (P : Program) (w : World) (K : PySem.W.Frag) (mg : Str → Option Value) (base : Heap) (CX : CXT) (k : Nat) (f : Addr) (fd : FuncData) (ps : List Str) (sp : Sp) : Prop where
  len : ∀ vs H Q E, sp vs H Q E → vs.length = ps.length
  run : ∀ (A : Around) (outer : List Env) (s : Shared) (H : Hp) (args : Args) (us : List Value) (vs : List V) (Q : VK) (E : XK), Room k A → Env0 P w K mg base A outer s H → BindsTo s fd args (ps.zip us) → Vals vs us → sp vs H Q E →
    codeAny (model P w) A (.call (.ref f) args) (CR CX outer P w H s Q E) s
/-- a weaker promise -/
theorem FnOk.imp {P : Program} {w : World} {K : PySem.W.Frag} {mg : Str → Option Value} {base : Heap} {CX : CXT} {k : Nat} {f : Addr} {fd : FuncData} {ps : List Str} {sp sp' : Sp} (F : FnOk P w K mg base CX k f fd ps sp)
    (h : ∀ vs H Q E, sp' vs H Q E → sp vs H Q E) : FnOk P w K mg base CX k f fd ps sp' :=
  ⟨fun vs H Q E q => F.len vs H Q E (h _ _ _ _ q), fun A outer s H args us vs Q E hr he hb hv hs => F.run A outer s H args us vs Q E hr he hb hv (h _ _ _ _ hs)⟩


section
variable {X : Cx} {pins : List (Addr × Obj)} {σ : St} {H : Hp} {s s' : Shared}
/-- from a body: what a callee wants -/
theorem Inv.env0 (I : Inv X pins σ H s) : Env0 X.prog X.w X.K X.mg X.base X.A X.stack s H :=
  ⟨I.ok.frames, I.ok.mod, I.bs, Nat.le_trans I.ok.bsz I.sz, I.stack, I.stkFree, I.hok, I.bare⟩
/-- behind a call -/
theorem Inv.after {Q : VK} {u : Value} (I : Inv X pins σ H s) (h : CE X.stack X.prog X.w H s Q u s') : EP X pins σ Q u s' := by
  obtain ⟨v, H', os, bare, un, hok, r, q⟩ := h
  obtain ⟨hh, g, d, t, os'⟩ := s'
  obtain rfl : os' = s.os := os
  exact ⟨v, H', I.call (h' := hh) (g' := g) (d' := d) (t' := t) (ch := []) un hok bare (fun b z => absurd z (by simp)), r, q⟩
end

/-! ### calls -/
/-- f(..): the written arguments, then the defaults dvs; E: what is wanted of an exception -/
noncomputable def tCall (sp : Sp) (dvs : List V) (E : XK) (t : TA) : TE := fun σ H Q => t σ H fun vs H1 => sp (vs ++ dvs) H1 Q E

/-- how the parameters are bound: us the positional arguments, kw the keywords' values by name, ds the defaults that fill up -/
noncomputable def Binds (K : PySem.W.Frag) (fd : FuncData) (ps : List Str) (ds : List Value) : Prop :=
  ∀ (s : Shared) (us : List Value), K.In s.heap → (us ++ ds).length = ps.length → BindsTo s fd ⟨us, []⟩ (ps.zip (us ++ ds))
/-- every parameter is given -/
theorem Binds.all {K : PySem.W.Frag} {fd : FuncData} {ps : List Str} (h : ∀ us : List Value, us.length = ps.length → bindArgs fd ⟨us, []⟩ = pure (ps.zip us)) : Binds K fd ps [] := fun s us _ hl => by
  rw [List.append_nil] at hl ⊢
  exact .of_eq (h us hl)

/-- an exception of a callee reaches what this body wants of exceptions -/
noncomputable def Passes (CX : CXT) (X : Cx) (E : XK) : Prop := ∀ (pins : List (Addr × Obj)) (σ : St) (H : Hp) (s : Shared) (e : Value) (s' : Shared), Inv X pins σ H s → CX X.stack H s E e s' → X.xe e s'

section
variable {X : Cx} {CX : CXT} {k : Nat} {f C : Addr} {fd : FuncData} {ps : List Str} {sp : Sp} {dvs : List V} {ds : List Value} {E : XK} {x m : Str} {p pos apos : Pos} {e o : Expr} {es : List Expr} {ta : TE} {t : TA}

/-- the callee runs -/
theorem run_fn {pins : List (Addr × Obj)} {σ : St} {H : Hp} {s : Shared} {Q : VK} {us : List Value} {vs : List V} (F : FnOk X.prog X.w X.K X.mg X.base CX k f fd ps sp) (hr : Room k X.A) (hb : Binds X.K fd ps ds) (hd : Vals dvs ds) (hx : Passes CX X E)
    (I : Inv X pins σ H s) (r : Vals vs us) (h : sp (vs ++ dvs) H Q E) : wpAny (model X.prog X.w) X.A (call (.ref f) us) (EP X pins σ Q) X.xe s := by
  have r2 : Vals (vs ++ dvs) (us ++ ds) := r.append hd
  have hl : (us ++ ds).length = ps.length := by rw [← r2.length]; exact F.len _ _ _ _ h
  refine wpAny_call (codeAny_mono (F.run X.A X.stack s H ⟨us, []⟩ (us ++ ds) (vs ++ dvs) Q E hr I.env0 (hb s us I.kIn hl) r2 h) fun r s' hq => ?_)
  cases r with
  | error e => exact hx pins σ H s e s' I hq
  | ok fl =>
    cases fl with
    | ret u => exact I.after hq
    | next => exact False.elim hq
    | brk => exact False.elim hq
    | cont => exact False.elim hq

theorem pe_call (F : FnOk X.prog X.w X.K X.mg X.base CX k f fd ps sp) (hr : Room k X.A) (hg : Gl X x) (hm : X.mg x = some (.ref f)) (hk : PySem.W.keepIn X.K (.ref f) = true) (hb : Binds X.K fd ps ds) (hd : Vals dvs ds) (hx : Passes CX X E)
    (ha : PA X (e :: es) t) (hdb : (x == ("__debug__" : Str)) = false := by decide) (he : starEach (e :: es) X.env = (false, eval e X.env) :: starEach es X.env := by rfl) (hpl : (backTo pos (starEach es X.env)).any (·.1) = false := by rfl) :
    PE X (.Call (.Name x p) (e :: es) [] pos) (tCall sp dvs E t) := by
  intro pins s σ H Q I h
  refine wpAny_Call_Name_kw (ld_glob I hg hm ?_ hdb)
  refine PySem.W.callWith_K (h₀ := X.base) I.ok.mod.kin hk (thn (ha pos pins s σ H _ I h) fun us s1 ⟨vs, H1, I1, r, q⟩ => ⟨I1.kIn, ?_⟩) he hpl
  exact run_fn F hr hb hd hx I1 r q


/-- what a class must have to be made -/
structure Mk (K : PySem.W.Frag) (C f : Addr) : Prop where
  makes : PySem.W.makesIn K C = true
  init : PySem.W.findIn K (.ref C) "__init__" = some (some (.ref f))
  fn : PySem.W.isFn K (.ref f) = true
  kp : PySem.W.keepIn K (.ref C) = true

end

/-! ### keywords -/
section
variable {X : Cx} {CX : CXT} {k : Nat} {f C : Addr} {fd : FuncData} {ps ks : List Str} {sp : Sp} {E : XK} {x m : Str} {p pos apos kpos : Pos} {e o : Expr} {es : List Expr} {kws : List Keyword} {te ta : TE} {t tk : TA} {nm : Option Str}

/-- how a call with keywords binds: g puts the positional values us and the keywords' values ws (names ks) in the parameters' order, defaults among them -/
structure KBinds (K : PySem.W.Frag) (fd : FuncData) (ps ks : List Str) (g : List Value → List Value → List Value) (gV : List V → List V → List V) : Prop where
  to : ∀ (s : Shared) (us ws : List Value), K.In s.heap → (g us ws).length = ps.length → BindsTo s fd ⟨us, ks.zip ws⟩ (ps.zip (g us ws))
  rel : ∀ {vs : List V} {us : List Value} {zs : List V} {ws : List Value}, Vals vs us → Vals zs ws → Vals (gV vs zs) (g us ws)
variable {g : List Value → List Value → List Value} {gV : List V → List V → List V}
end

/-! ### a def's body keeps its promise -/
/-- names: the parameters first -/
structure FnScope (N P : List Str) (sc : Scope) : Prop where
  kind : sc.kind = .function
  co : sc.isCoroutine = false
  gen : sc.isGenerator = false
  nd : N.Nodup
  pre : N.take P.length = P
  par : ∀ x ∈ P, sc.names.lookup x = some .local ∨ sc.names.lookup x = some .cell
  nofree : ∀ y ∈ sc.names, y.2 ≠ .free

theorem bindL_out {kindOf : Str → Option NameKind} {x : Str} : ∀ {binds : List (Str × Value)} {m : Str → Option Value}, (∀ v, (x, v) ∉ binds) → bindL kindOf binds m x = m x
  | [], _, _ => rfl
  | (n, v) :: r, m, h => by
    unfold bindL
    rw [bindL_out fun w hw => h w (List.mem_cons_of_mem _ hw)]
    split
    · have : x ≠ n := by rintro rfl; exact h v List.mem_cons_self
      simp [this]
    · rfl
theorem bindC_out {kindOf : Str → Option NameKind} {x : Str} : ∀ {binds : List (Str × Value)} {m : Str → Option Value}, (∀ v, (x, v) ∉ binds) → bindC kindOf binds m x = m x
  | [], _, _ => rfl
  | (n, v) :: r, m, h => by
    unfold bindC
    rw [bindC_out fun w hw => h w (List.mem_cons_of_mem _ hw)]
    split
    · rfl
    · have : x ≠ n := by rintro rfl; exact h v List.mem_cons_self
      simp [this]
theorem bindL_get {kindOf : Str → Option NameKind} {x : Str} {v : Value} : ∀ {P : List Str} {vs : List Value} {i : Nat} {m : Str → Option Value}, P.Nodup → P[i]? = some x → vs[i]? = some v → kindOf x = some .local →
    bindL kindOf (P.zip vs) m x = some v
  | [], _, _, _, _, h, _, _ => by simp at h
  | _ :: _, [], _, _, _, _, h, _ => by simp at h
  | p :: P, w :: vs, 0, m, nd, h1, h2, hk => by
    simp at h1 h2; subst h1; subst h2
    show bindL kindOf ((p, w) :: P.zip vs) m p = _
    unfold bindL
    rw [bindL_out fun v hv => (List.nodup_cons.mp nd).1 (List.of_mem_zip hv).1, if_pos hk]
    simp
  | p :: P, w :: vs, i + 1, m, nd, h1, h2, hk => by
    show bindL kindOf ((p, w) :: P.zip vs) m x = _
    unfold bindL
    exact bindL_get (i := i) (List.nodup_cons.mp nd).2 (by simpa using h1) (by simpa using h2) hk
theorem bindC_get {kindOf : Str → Option NameKind} {x : Str} {v : Value} : ∀ {P : List Str} {vs : List Value} {i : Nat} {m : Str → Option Value}, P.Nodup → P[i]? = some x → vs[i]? = some v → kindOf x ≠ some .local →
    bindC kindOf (P.zip vs) m x = some v
  | [], _, _, _, _, h, _, _ => by simp at h
  | _ :: _, [], _, _, _, _, h, _ => by simp at h
  | p :: P, w :: vs, 0, m, nd, h1, h2, hk => by
    simp at h1 h2; subst h1; subst h2
    show bindC kindOf ((p, w) :: P.zip vs) m p = _
    unfold bindC
    rw [bindC_out fun v hv => (List.nodup_cons.mp nd).1 (List.of_mem_zip hv).1, if_neg hk]
    simp
  | p :: P, w :: vs, i + 1, m, nd, h1, h2, hk => by
    show bindC kindOf ((p, w) :: P.zip vs) m x = _
    unfold bindC
    exact bindC_get (i := i) (List.nodup_cons.mp nd).2 (by simpa using h1) (by simpa using h2) hk

/-- the names' values at the entry -/
noncomputable def start (N : List Str) (vs : List V) : St := vs.map some ++ List.replicate (N.length - vs.length) none

/-- the context of a def's body, at its entry; an exception leaves the frame, then lies as CX says -/
noncomputable def cxOf (CX : CXT) (P : Program) (w : World) (K : PySem.W.Frag) (mg : Str → Option Value) (base : Heap) (N : List Str) (qual : Str) (scope : Scope) (f : Addr) (cd : Value) (A : Around) (outer : List Env) (s : Shared) (H : Hp) (E : XK) : Cx where
  prog := P
  w := w
  K := K
  mg := mg
  base := base
  A := A.deeper (envOfC qual scope s.heap.objs.size f cd)
  N := N
  s₀ := s
  H₀ := H
  env := envOfC qual scope s.heap.objs.size f cd
  outer := outer
  stack := envOfC qual scope s.heap.objs.size f cd :: outer
  ex := []
  calm := true
  fn := fun _ => true
  pn := []
  xe := fun e s' => wpAny (model P w) (A.deeper (envOfC qual scope s.heap.objs.size f cd)) (leaving (envOfC qual scope s.heap.objs.size f cd) e) (fun _ s'' => CX outer H s E e s'') (fun e' s'' => CX outer H s E e' s'') s'

theorem cell_has {sc : Scope} {n : Nat} {x : Str} (h : sc.names.lookup x = some .cell) : ∃ c, (cellsFrom n sc.names []).lookup x = some c := by
  have q := PySem.W.cellsFrom_some sc.names n [] (.inl h)
  exact Option.isSome_iff_exists.mp q

theorem inv_start {CX : CXT} {P : Program} {w : World} {K : PySem.W.Frag} {mg : Str → Option Value} {base : Heap} {N ps : List Str} {qual : Str} {scope : Scope} {f : Addr} {cd : Value} {A : Around} {outer : List Env} {s s1 : Shared} {H : Hp} {E : XK} {us : List Value} {vs : List V}
    (S : FnScope N ps scope) (hd : A.handled = none) (e0 : Env0 P w K mg base A outer s H) (hl : vs.length = ps.length) (r : Vals vs us)
    (x : InCallC s s.heap.objs.size (bindL (envOfC qual scope s.heap.objs.size f cd).kindOf (ps.zip us) fun _ => none) (cellsFrom (s.heap.objs.size + 1) scope.names []) (bindC (envOfC qual scope s.heap.objs.size f cd).kindOf (ps.zip us) fun _ => none) s1) :
    Inv (cxOf CX P w K mg base N qual scope f cd A outer s H E) [] (start N vs) H s1 := by
  have hpl : ps.length ≤ N.length := by have := congrArg List.length S.pre; rw [List.length_take] at this; omega
  obtain ⟨h1, tk, rfl, hk⟩ := x.done
  have noA : ∀ b : Addr, b ∉ (cxOf CX P w K mg base N qual scope f cd A outer s H E).ex := fun b z => absurd (show b ∈ ([] : List Addr) from z) (by simp)
  refine ⟨⟨e0.mod, S.kind, rfl, rfl, Nat.le_refl _, fun y z c h1 h2 => ?_, fun y hy => ?_, fun y c _ h => ?_, fun _ => hd, Around.frames_deeper e0.frames, .inr ⟨rfl, rfl⟩, fun b z => absurd z (noA b), e0.bs, e0.bsz, fun b _ _ => noA b, fun b z => absurd z (noA b), e0.funs, e0.frf⟩,
    rfl, e0.bare, Un.kept hk, ⟨_, x.toInCall.ns, fun i y v h1 h2 h3 => ?_⟩, fun y c h => ⟨_, x.cell y c h⟩, e0.hok.fresh (Nat.le_refl _), fun y c h => ?_, fun p hp => absurd (show p ∈ ([] : List (Addr × Obj)) from hp) (by simp), e0.hok.kept hk, ?_⟩
  · exact name_of_addr x.apart (PySem.mem_of_lookup h1) (PySem.mem_of_lookup h2)
  · have hy : scope.names.lookup y = some .cell ∨ scope.names.lookup y = some .free := hy
    rcases hy with hy | hy
    · exact cell_has hy
    · exact absurd rfl (S.nofree _ (PySem.mem_of_lookup hy))
  · exact Nat.le_of_lt (x.above y c (PySem.mem_of_lookup h))
  · have hi : i < vs.length := by
      unfold start at h2
      by_cases hi : i < vs.length
      · exact hi
      · rw [List.getElem?_append_right (by simpa using hi)] at h2
        rw [List.getElem?_replicate] at h2
        split at h2 <;> cases h2
    have ha : vs[i]? = some v := by
      unfold start at h2
      rw [List.getElem?_append_left (by simpa using hi), List.getElem?_map] at h2
      cases e : vs[i]? with
      | none => rw [e] at h2; cases h2
      | some a => rw [e] at h2; cases h2; rfl
    obtain ⟨u, hu, rv⟩ := r.get ha
    have hp : ps[i]? = some y := by
      rw [← S.pre, List.getElem?_take_of_lt (by omega)]; exact h1
    have ndP : ps.Nodup := by rw [← S.pre]; exact S.nd.sublist (List.take_sublist _ _)
    refine ⟨u, rv, ?_⟩
    rcases S.par y (List.mem_of_getElem? hp) with k | k
    · exact .inl ⟨k, bindL_get ndP hp hu k⟩
    · obtain ⟨c, e⟩ := cell_has (n := s.heap.objs.size + 1) k
      refine .inr ⟨.inl k, c, e, ?_⟩
      have q := x.cell y c e
      rw [bindC_get ndP hp hu (by show scope.names.lookup y ≠ _; rw [k]; decide)] at q
      exact q
  · exact e0.hok.fresh (Nat.le_of_lt (x.above y c (PySem.mem_of_lookup h)))
  · unfold start
    show _ = N.length
    rw [List.length_append, List.length_map, List.length_replicate]
    omega

/-- THE RULE: a def (or a method) of the text, by its body. The body's reading t is chosen for each entry; it is run at the parameters' values -/
theorem fn_of {CX : CXT} {P : Program} {w : World} {K : PySem.W.Frag} {mg : Str → Option Value} {base : Heap} {k : Nat} {f : Addr} {name qual : Str} {params : Arguments} {body : List Stmt} {scope : Scope} {dV kV doc pm cdv ct oc : Value} {an od : Option Addr}
    {osl : Array (Option Value)} {N ps : List Str} {sp : Sp} (lk : K.lookup f = some ⟨oc, od, .func (PySem.W.fnOf name qual params body scope dV kV doc pm an cdv ct), osl⟩) (hcd : PySem.W.codeIn K cdv qual = true) (S : FnScope N ps scope)
    (len : ∀ vs H Q E, sp vs H Q E → vs.length = ps.length)
    (hbody : ∀ (A : Around) (outer : List Env) (s : Shared) (H : Hp) (vs : List V) (Q : VK) (E : XK), Room k (A.deeper (envOfC qual scope s.heap.objs.size f cdv)) → sp vs H Q E →
      ∃ t, PSs (cxOf CX P w K mg base N qual scope f cdv A outer s H E) body t ∧ t { nx := fun _ H' => Q .non H', rt := Q } (start N vs) H) :
    FnOk P w K mg base CX (k + 1) f (PySem.W.fnOf name qual params body scope dV kV doc pm an cdv ct) ps sp := by
  refine ⟨len, fun A outer s H args us vs Q E hr e0 hb r hsp => ?_⟩
  have hl := len _ _ _ _ hsp
  have KX : K.In s.heap := e0.mod.kin.keeps fun b o e => (e0.bs b o e).1
  have lim : s.heap.NoLimit := e0.mod.nolimit.keeps fun b o e => (e0.bs b o e).1
  have hkind : ∀ y ∈ ps.zip us, scope.names.lookup y.1 = some .local ∨ (scope.names.lookup y.1 = some .cell ∧ ((cellsFrom (s.heap.objs.size + 1) scope.names []).lookup y.1).isSome = true) := fun ⟨n, v⟩ hy => by
    rcases S.par n (List.of_mem_zip hy).1 with q | q
    · exact .inl q
    · exact .inr ⟨q, PySem.W.cellsFrom_some _ _ _ (.inl q)⟩
  refine codeAny_call_function hr.depth (KX _ _ lk) rfl S.co S.gen rfl (PySem.W.codeRec_of KX hcd) (hb _ _ _ _ ?_)
  refine wpAny_newFunctionEnv_cells S.kind hkind fun env he s1 x => ?_
  subst he
  refine ⟨lim.keeps x.toInCall.keep, codeAny_func ?_⟩
  obtain ⟨t, ht, hq⟩ := hbody A outer s H vs Q E (hr.deeper _) hsp
  have I : Inv (cxOf CX P w K mg base N qual scope f cdv A outer s H E) [] (start N vs) H s1 := inv_start S hr.hd e0 hl r x
  refine wpAny_mono (ht [] s1 (start N vs) H _ I hq) (fun fl s' hs => ?_) fun e s' hs => hs
  have fin : ∀ {σ' : St} {H' : Hp} {v : V} {u : Value}, Inv (cxOf CX P w K mg base N qual scope f cdv A outer s H E) [] σ' H' s' → RelV v u → Q v H' → CE outer P w H s Q u s' :=
    fun {σ' H' v u} J rv q => ⟨v, H', J.os, J.bare, J.base, J.hok, rv, q⟩
  cases fl with
  | ret u =>
    obtain ⟨v, σ', H', J, rv, q⟩ := hs
    exact fin J rv q
  | next =>
    obtain ⟨σ', H', J, q⟩ := hs
    exact fin (v := V.non) (u := Value.none) J rfl q
  | brk =>
    obtain ⟨_, _, _, q⟩ := hs
    exact False.elim q
  | cont =>
    obtain ⟨_, _, _, q⟩ := hs
    exact False.elim q
end L2

namespace L2
open PySem PySem.Spec PyProof.Rows
section
variable {X : Cx} {x : Str} {p pos : Pos} {e : Expr} {es : List Expr} {t : TA} {id T : String} {r : List V → Hp → VK → Prop}

noncomputable def tCB (r : List V → Hp → VK → Prop) (t : TA) : TE := fun σ H Q => t σ H fun vs H1 => r vs H1 Q
/-- f(e, ..), f a built-in function -/
theorem pe_callB (hc : CallR X (.builtin id) r) (hg : Gl X x) (hm : X.mg x = none) (hv : bootBuiltins x = some (.builtin id)) (ha : PA X (e :: es) t) (hn : x ≠ "__name__" := by decide) (hdb : (x == ("__debug__" : Str)) = false := by decide)
    (he : starEach (e :: es) X.env = (false, eval e X.env) :: starEach es X.env := by rfl) (hpl : (backTo pos (starEach es X.env)).any (·.1) = false := by rfl) : PE X (.Call (.Name x p) (e :: es) [] pos) (tCB r t) := by
  intro pins s σ H Q I h
  refine wpAny_Call_Name_kw (ld_blt I hg hm hv ?_ hn hdb)
  exact PyProof.Rows.callWith_builtin1 (thn (ha pos pins s σ H _ I h) fun us s1 ⟨vs, H1, I1, r1, q1⟩ => hc pins s1 σ H1 vs us Q I1 r1 q1) he hpl
/-- T(e, ..), T a built-in type -/
theorem pe_callTy (hc : CallR X (.type T) r) (hg : Gl X x) (hm : X.mg x = none) (hv : bootBuiltins x = some (.type T)) (ha : PA X (e :: es) t) (hn : x ≠ "__name__" := by decide) (hdb : (x == ("__debug__" : Str)) = false := by decide)
    (he : starEach (e :: es) X.env = (false, eval e X.env) :: starEach es X.env := by rfl) (hpl : (backTo pos (starEach es X.env)).any (·.1) = false := by rfl) : PE X (.Call (.Name x p) (e :: es) [] pos) (tCB r t) := by
  intro pins s σ H Q I h
  refine wpAny_Call_Name_kw (ld_blt I hg hm hv ?_ hn hdb)
  exact PyProof.Rows.callWith_type1 (thn (ha pos pins s σ H _ I h) fun us s1 ⟨vs, H1, I1, r1, q1⟩ => hc pins s1 σ H1 vs us Q I1 r1 q1) he hpl
end
end L2

namespace HT
open PySem PyProof.Rows



section
open PySem.SeqAt
open PySem.AutoSeq1 (wpAny_loadPart')
open PySem.MeetsSeq PySem.MeetsSeq2 PySem.MeetsSeq3

end

section
variable {prog : Program} {w : World} {A : Around} {E : Value → Shared → Prop} {s : Shared}


/-- t + u, t not empty -/
theorem cat_tup {t b : Addr} {vs ws : List Value} {Q : Value → Shared → Prop} (ht : IsTup s.heap t vs.toArray) (hb : IsTup s.heap b ws.toArray) (hv : vs ≠ [])
    (h1 : ws = [] → Q (.ref t) s) (h2 : ws ≠ [] → Q (.ref s.heap.objs.size) { s with heap := s.heap.push { cls := .type "tuple", data := .seq (vs ++ ws).toArray } })
    (hsz : vs.length + ws.length ≤ sizeLine) : wpAny (model prog w) A (binaryOp .Add (.ref t) (.ref b)) Q E s := by
  obtain ⟨⟨cls, dd, data, sl⟩, ho, hc, n, hd⟩ := id ht
  obtain ⟨⟨cls2, dd2, data2, sl2⟩, ho2, hc2, n2, hd2⟩ := id hb
  simp only at hc hd hc2 hd2
  subst hc hd hc2 hd2
  have e : vs.toArray ++ ws.toArray = (vs ++ ws).toArray := by simp
  by_cases hw : ws = []
  · exact concat_meets ⟨_, ho, rfl⟩ ⟨_, ho2, rfl⟩ noFill_tuple_add seq_tuple_add PySem.F.slot_tuple_add PySem.F.entry_tuple_add (PySem.F.args_tuple_add_2 _ _)
      (tuple_addW1 t b vs.toArray ws.toArray n n2 dd dd2 sl sl2 (by simpa using hv) (by simp [hw])) ⟨ho, ho2, h1 hw⟩
  · refine concat_meets ⟨_, ho, rfl⟩ ⟨_, ho2, rfl⟩ noFill_tuple_add seq_tuple_add PySem.F.slot_tuple_add PySem.F.entry_tuple_add (PySem.F.args_tuple_add_2 _ _)
      (tuple_addW2 t b vs.toArray ws.toArray n n2 dd dd2 sl sl2 (by simpa using hv) (by simpa using hw) (by rw [List.size_toArray, List.size_toArray]; exact hsz)) ⟨ho, ho2, ?_⟩
    rw [e]
    exact h2 hw

/-! ### t[a:b], not the whole -/
/-- a slice's bound as a place among n (d where it is left out) -/
noncomputable def sIx (n d : Nat) : Option Int → Nat
  | none => d
  | some v => if v < 0 then (v + (n : Int)).toNat else min v.toNat n
theorem sIx_none (n d : Nat) : sIx n d none = d := rfl
theorem sIx_nat (n d k : Nat) : sIx n d (some (k : Int)) = min k n := by
  show (if (k : Int) < 0 then ((k : Int) + (n : Int)).toNat else min (k : Int).toNat n) = min k n
  rw [if_neg (by omega), Int.toNat_natCast]
theorem sIx_le (n d : Nat) (hd : d ≤ n) (o : Option Int) : sIx n d o ≤ n := by
  cases o with
  | none => exact hd
  | some v =>
    show (if v < 0 then (v + (n : Int)).toNat else min v.toNat n) ≤ n
    by_cases hv : v < 0
    · rw [if_pos hv]; omega
    · rw [if_neg hv]; exact Nat.min_le_right _ _
theorem clip_eq (v : Int) (n d : Nat) : (if v < 0 then max (v + (n : Int)) 0 else min v (n : Int)) = ((sIx n d (some v) : Nat) : Int) := by
  show (if v < 0 then max (v + (n : Int)) 0 else min v (n : Int)) = (((if v < 0 then (v + (n : Int)).toNat else min v.toNat n) : Nat) : Int)
  by_cases hv : v < 0
  · simp only [if_pos hv]; omega
  · simp only [if_neg hv]; omega
theorem adjust_gen (lo hi : Option Int) (n : Nat) : Builtin.Slice.sliceAdjust lo hi 1 (n : Int) = (((sIx n 0 lo : Nat) : Int), ((sIx n n hi : Nat) : Int)) := by
  have h1 : ¬ ((1 : Int) < 0) := by omega
  unfold Builtin.Slice.sliceAdjust
  simp only [h1, if_false]
  refine Prod.ext ?_ ?_
  · cases lo with
    | none => rfl
    | some v => exact clip_eq v n 0
  · cases hi with
    | none => rfl
    | some v => exact clip_eq v n n
theorem places_gen (i j : Nat) : Builtin.Slice.slicePlaces (i : Int) (j : Int) 1 = j - i := by
  unfold Builtin.Slice.slicePlaces
  have h1 : (1 : Int) > 0 := by omega
  simp only [h1, if_true, Int.ediv_one]
  split <;> omega
theorem slicePart_ {v : Value} {o : Option Int} {Q : Option Int → Shared → Prop} (p : IsPart v o) (h : Q o s) : wpAny (model prog w) A (Builtin.Slice.slicePartIndex v) Q E s := by
  cases p with
  | none => exact slicePart_none h
  | int i t => exact slicePart_int h
theorem sliceApplied_gen {sl : Addr} {vl vu : Value} {lo hi : Option Int} {n : Nat} {Q : Int × Int × Nat → Shared → Prop} (hs : s.heap.IsSliceOf sl vl vu .none) (pl : IsPart vl lo) (pu : IsPart vu hi)
    (h : Q (((sIx n 0 lo : Nat) : Int), 1, sIx n n hi - sIx n 0 lo) s) : wpAny (model prog w) A (Builtin.Slice.sliceApplied (.ref sl) (pure (n : Int))) Q E s := by
  obtain ⟨os, hos, hcs, hds⟩ := id hs
  unfold Builtin.Slice.sliceApplied Builtin.Slice.sliceFields
  refine wpAny_bind (wpAny_bind (wpAny_field hos hds (x := vl) rfl (wpAny_bind (wpAny_field hos hds (x := vu) rfl (wpAny_bind (wpAny_field hos hds (x := .none) rfl (wpAny_pure ?_)))))))
  refine wpAny_bind (slicePart_none ?_)
  show wpAny _ _ (if ((1 : Int) == 0) = true then _ else _) _ _ s
  rw [if_neg (by decide)]
  refine wpAny_bind (slicePart_ pl (wpAny_bind (slicePart_ pu (wpAny_bind (wpAny_pure ?_)))))
  show wpAny _ _ (match Builtin.Slice.sliceAdjust lo hi 1 (n : Int) with | (lo, hi) => pure (lo, (1 : Int), Builtin.Slice.slicePlaces lo hi 1)) _ _ s
  rw [adjust_gen lo hi n]
  show wpAny _ _ (pure (((sIx n 0 lo : Nat) : Int), (1 : Int), Builtin.Slice.slicePlaces ((sIx n 0 lo : Nat) : Int) ((sIx n n hi : Nat) : Int) 1)) _ _ s
  rw [places_gen]
  exact wpAny_pure h
theorem pick_gen (xs : Array Value) (i k : Nat) : ((List.range k).filterMap fun (m : Nat) => xs[((i : Int) + (m : Int) * 1).toNat]?).toArray = ((xs.toList.drop i).take k).toArray := by
  have e : (fun (m : Nat) => xs[((i : Int) + (m : Int) * 1).toNat]?) = fun m => xs[i + m]? := by
    funext m
    have : ((i : Int) + (m : Int) * 1).toNat = i + m := by omega
    rw [this]
  rw [e]
  have := pick_run xs i k
  rw [List.filterMap_map] at this
  have e2 : ((fun x => xs[x]?) ∘ fun x => i + x) = fun m => xs[i + m]? := rfl
  rw [e2] at this
  rw [this]

theorem getItem_tuple_cut {t sl : Addr} {items : Array Value} {vl vu : Value} {lo hi : Option Int} {Q : Value → Shared → Prop} (ht : IsTup s.heap t items) (hs : s.heap.IsSliceOf sl vl vu .none) (pl : IsPart vl lo) (pu : IsPart vu hi)
    (hw : ¬ (sIx items.size 0 lo = 0 ∧ sIx items.size items.size hi = items.size))
    (h : Q (.ref s.heap.objs.size) { s with heap := s.heap.push { cls := .type "tuple", data := .seq ((items.toList.drop (sIx items.size 0 lo)).take (sIx items.size items.size hi - sIx items.size 0 lo)).toArray } })
    (hsz : items.size ≤ sizeLine) : wpAny (model prog w) A (getItem (.ref t) (.ref sl)) Q E s := by
  have htake : sizeOk (.seq ((items.toList.drop (sIx items.size 0 lo)).take (sIx items.size items.size hi - sIx items.size 0 lo)).toArray) := by
    show ((items.toList.drop (sIx items.size 0 lo)).take (sIx items.size items.size hi - sIx items.size 0 lo)).toArray.size ≤ sizeLine
    rw [List.size_toArray, List.length_take, List.length_drop, Array.length_toList]
    omega
  have hj : sIx items.size items.size hi ≤ items.size := sIx_le _ _ (Nat.le_refl _) hi
  obtain ⟨os, hos, hcs, hds⟩ := id hs
  have hTs : s.TypeIs (.ref sl) "slice" := ⟨os, hos, hcs⟩
  unfold getItem
  try with_reducible refine wpAny_holding ?_
  first | refine wpAny_bind (wpAny_pure ?_) | skip
  refine wpAny_bind (wpAny_sequenceKey ht.typeIs (by decide) ?_)
  refine wpAny_bind (wpAny_callSpecial?_slot (name := Str.ofString "__getitem__") ht.typeIs PyProof.Rows.slot_tuple_getitem
    (wpAny_call_entry PyProof.Rows.slot_tuple_getitem ht.typeIs entry_tuple_getitem ?_ (args_tuple_getitem _ _)))
  show wpAny _ _ (Builtin.Tuple.tupleItemsOf (.ref t) >>= _) _ _ s
  refine wpAny_bind (tupleItemsOf_ ht ?_)
  refine wpAny_bind (wpAny_typeOf hTs ?_)
  rw [if_pos (by decide)]
  refine wpAny_bind (sliceApplied_gen hs pl pu ?_)
  have hno : ¬ ((((sIx items.size 0 lo : Nat) : Int) == 0 && (1 : Int) == 1 && (sIx items.size items.size hi - sIx items.size 0 lo) == items.size) = true) := by
    intro q
    rw [Bool.and_eq_true, Bool.and_eq_true] at q
    have q1 : ((sIx items.size 0 lo : Nat) : Int) = 0 := eq_of_beq q.1.1
    have q2 : sIx items.size items.size hi - sIx items.size 0 lo = items.size := eq_of_beq q.2
    exact hw ⟨by omega, by omega⟩
  show wpAny _ _ (if (((sIx items.size 0 lo : Nat) : Int) == 0 && (1 : Int) == 1 && (sIx items.size items.size hi - sIx items.size 0 lo) == items.size) = true then _ else _) _ _ s
  rw [if_neg hno, pick_gen]
  first
    | exact wpAny_bind (m := Builtin.Tuple.tupleExact _) (wpAny_newObj_type (wpAny_pure ⟨_, rfl, wpAny_pure h⟩) htake)
    | exact wpAny_bind (m := Builtin.Tuple.tupleExact _) (wpAny_newObj_type (wpAny_bind (wpAny_pure (wpAny_pure ⟨_, rfl, wpAny_pure h⟩))) htake)
    | exact wpAny_bind (wpAny_bind (m := Builtin.Tuple.tupleExact _) (wpAny_newObj_type (wpAny_pure (wpAny_pure ⟨_, rfl, wpAny_pure h⟩)) htake))
    | exact wpAny_bind (wpAny_bind (m := Builtin.Tuple.tupleExact _) (wpAny_newObj_type (wpAny_pure ⟨_, rfl, wpAny_pure h⟩) htake))
end
end HT

namespace L2
open PySem PySem.Spec PyProof.Rows

/-! ### the parts of a slice -/
noncomputable abbrev TO := St → Hp → (Option Int → Hp → Prop) → Prop
/-- a slice's part (left out, or an int) -/
noncomputable def PO (X : Cx) (e : Option Expr) (t : TO) : Prop :=
  ∀ (pins : List (Addr × Obj)) (s : Shared) (σ : St) (H : Hp) (Q : Option Int → Hp → Prop), Inv X pins σ H s → t σ H Q →
    wpAny (model X.prog X.w) X.A (evalPart e X.env) (fun u s' => ∃ o H', Inv X pins σ H' s' ∧ IsPart u o ∧ Q o H') X.xe s
noncomputable def tNoPart : TO := fun _ H Q => Q none H
noncomputable def tPart (t : TE) : TO := fun σ H Q => t σ H fun x H1 => ∃ i, x = .int i ∧ Q (some i) H1


section
variable {X : Cx} {e : Expr} {te : TE} {lo hi : Option Expr} {tl th : TO} {pos p2 : Pos}

theorem po_none : PO X none tNoPart := by
  intro pins s σ H Q I h
  rw [evalPart_none]
  exact wpAny_pure ⟨none, H, I, .none, h⟩
theorem po_some (h : PE X e te) : PO X (some e) (tPart te) := by
  intro pins s σ H Q I hw
  rw [evalPart_some]
  refine thn (h pins s σ H _ I hw) fun u s1 ⟨x, H1, I1, r1, q1⟩ => ?_
  obtain ⟨i, rfl, q⟩ := q1
  obtain ⟨t, rfl⟩ := r1
  exact ⟨some i, H1, I1, .int i t, q⟩

/-- what a slice of a value is, by values: the slice object stands at sl -/
noncomputable def SlR (X : Cx) (r : V → Option Int → Option Int → Hp → VK → Prop) : Prop :=
  ∀ (pins : List (Addr × Obj)) (s : Shared) (σ : St) (H : Hp) (x : V) (v vl vu : Value) (lo hi : Option Int) (sl : Addr) (Q : VK), Inv X pins σ H s → RelV x v → s.heap.IsSliceOf sl vl vu .none → IsPart vl lo → IsPart vu hi → r x lo hi H Q →
    ∃ T id, typeLookup (.type T) "__getitem__" = pure (some (.builtin id)) ∧ s.TypeIs v T ∧ wpAny (model X.prog X.w) X.A (getItem v (.ref sl)) (EP X pins σ Q) X.xe s
noncomputable def tSl (r : V → Option Int → Option Int → Hp → VK → Prop) (te : TE) (tl th : TO) : TE := fun σ H Q => te σ H fun x H1 => tl σ H1 fun l H2 => th σ H2 fun u H3 => r x l u H3 Q
/-- a[lo:hi], any a -/
theorem pe_slice {r : V → Option Int → Option Int → Hp → VK → Prop} (hr : SlR X r) (he : PE X e te) (hl : PO X lo tl) (hu : PO X hi th) : PE X (.Subscript e (.Slice lo hi none p2) pos) (tSl r te tl th) := by
  intro pins s σ H Q I h
  refine Subscript_ (thn (he pins s σ H _ I h) fun v s1 ⟨x, H1, I1, r1, q1⟩ => ?_)
  refine wpAny_Slice (thn (hl pins s1 σ H1 _ I1 q1) fun vl s2 ⟨l, H2, I2, pl, q2⟩ => thn (hu pins s2 σ H2 _ I2 q2) fun vu s3 ⟨u, H3, I3, pu, q3⟩ => ?_)
  rw [evalPart_none]
  refine wpAny_pure ?_
  have I4 : Inv X pins σ H3 { s3 with heap := s3.heap.push { cls := .type "slice", data := .fields #[vl, vu, .none] } } := I3.kept (t' := s3.toks) fun b ob q => Heap.get?_push_of_some _ q
  obtain ⟨T, id, hT, ht, hg⟩ := hr pins { s3 with heap := s3.heap.push { cls := .type "slice", data := .fields #[vl, vu, .none] } } σ H3 x v vl vu l u s3.heap.objs.size Q I4 r1 (Heap.IsSliceOf.new ..) pl pu q3
  show wpAny (model X.prog X.w) X.A (subscriptTail e (.Slice lo hi none p2) v (.ref s3.heap.objs.size)) (EP X pins σ Q) X.xe { s3 with heap := s3.heap.push { cls := .type "slice", data := .fields #[vl, vu, .none] } }
  exact tail_any (ops := [.ref s3.heap.objs.size, v]) ht hT hg (by with_unfolding_all rfl)

/-- the items of xs[lo:hi] -/
noncomputable def cutV (xs : List V) (lo hi : Option Int) : List V := (xs.drop (HT.sIx xs.length 0 lo)).take (HT.sIx xs.length xs.length hi - HT.sIx xs.length 0 lo)
theorem cutV_length (xs : List V) (lo hi : Option Int) : (cutV xs lo hi).length ≤ xs.length := by
  unfold cutV
  rw [List.length_take, List.length_drop]
  omega
/-- t[lo:hi], not the whole of it (the whole would be t itself) -/
noncomputable def rSlT (K : PySem.W.Frag) : V → Option Int → Option Int → Hp → VK → Prop := fun x lo hi H Q => ∃ a xs, x = .ref a ∧ SqT K H a xs ∧
  ¬ (HT.sIx xs.length 0 lo = 0 ∧ HT.sIx xs.length xs.length hi = xs.length) ∧ ∀ p, H p = none → Q (.ref p) (upd H p (.tup (cutV xs lo hi)))
theorem sl_tup : SlR X (rSlT X.K) := by
  intro pins s σ H x v vl vu lo hi sl Q I rx hs pl pu h
  obtain ⟨a, xs, rfl, hx, hw, q⟩ := h
  cases rx
  obtain ⟨its, r, ht, hz⟩ := I.tuple hx
  have hlen : its.toArray.size = xs.length := by rw [List.size_toArray]; exact r.length.symm
  refine ⟨"tuple", _, PyProof.Rows.slot_tuple_getitem.lookup, ht.typeIs, ?_⟩
  refine HT.getItem_tuple_cut ht hs pl pu (by rw [hlen]; exact hw) ?_ (by rw [hlen]; exact hz)
  rw [hlen]
  refine ⟨.ref s.heap.objs.size, _, I.laid (t' := s.toks) (o := .tup (cutV xs lo hi)) (fun b ob q => Heap.get?_push_of_some _ q) (Nat.le_refl _) ?_, rfl, q _ (I.hok.fresh (Nat.le_refl _))⟩
  exact ⟨Nat.le_trans (cutV_length xs lo hi) hz, _, (r.drop (HT.sIx xs.length 0 lo)).take (HT.sIx xs.length xs.length hi - HT.sIx xs.length 0 lo), IsTup.new _ _⟩

/-! ### t < u, t + u -/
/-- t + u, t not empty: u empty gives t itself -/
noncomputable def rCatT (K : PySem.W.Frag) : R2 := fun x y H Q => ∃ a b xs ys, x = .ref a ∧ y = .ref b ∧ SqT K H a xs ∧ SqT K H b ys ∧ xs ≠ [] ∧ xs.length + ys.length ≤ sizeLine ∧
  (ys = [] → Q (.ref a) H) ∧ (ys ≠ [] → ∀ p, H p = none → Q (.ref p) (upd H p (.tup (xs ++ ys))))
theorem Vals.nil_iff {xs : List V} {us : List Value} (r : Vals xs us) : us = [] ↔ xs = [] := by
  cases r with
  | nil => simp
  | cons _ _ => simp
theorem op_catT : OpR X (binaryOp .Add) (rCatT X.K) := by
  intro pins s σ H x y v u Q I rx ry h
  obtain ⟨a, b, xs, ys, rfl, rfl, ha, hb, hx, hz, q1, q2⟩ := h
  cases rx
  cases ry
  obtain ⟨its, r1, p1, _⟩ := I.tuple ha
  obtain ⟨its2, r2, p2, _⟩ := I.tuple hb
  refine HT.cat_tup p1 p2 (fun z => hx (r1.nil_iff.mp z)) (fun z => ⟨.ref a, H, I, rfl, q1 (r2.nil_iff.mp z)⟩) (fun z => ?_) (by rw [← r1.length, ← r2.length]; exact hz)
  refine ⟨.ref s.heap.objs.size, _, I.laid (t' := s.toks) (o := .tup (xs ++ ys)) (fun b ob q => Heap.get?_push_of_some _ q) (Nat.le_refl _) ?_, rfl, q2 (fun w => z (r2.nil_iff.mpr w)) _ (I.hok.fresh (Nat.le_refl _))⟩
  exact ⟨by rw [List.length_append]; exact hz, _, r1.append r2, IsTup.new _ _⟩
end
end L2

namespace L2
open PySem PySem.Spec PyProof.Rows

/-! ### places -/
/-- the place that an index of any sign means -/
noncomputable def ixN (n : Nat) (i : Int) : Option Nat := if 0 ≤ i then (if i < n then some i.toNat else none) else if -(n : Int) ≤ i then some (i + n).toNat else none
noncomputable def atI {α : Type} (xs : List α) (i : Int) : Option α := (ixN xs.length i).bind fun j => xs[j]?
theorem ixN_seq {n : Nat} {i : Int} {j : Nat} (h : ixN n i = some j) : seqIndex? i n = some j ∧ j < n ∧ -(n : Int) ≤ i ∧ i < n := by
  unfold ixN at h
  by_cases h0 : 0 ≤ i
  · rw [if_pos h0] at h
    by_cases h1 : i < n
    · rw [if_pos h1] at h
      have e : i.toNat = j := Option.some.inj h
      exact ⟨by rw [seqIndex_of h0 h1, e], by omega, by omega, h1⟩
    · rw [if_neg h1] at h; cases h
  · rw [if_neg h0] at h
    by_cases h1 : -(n : Int) ≤ i
    · rw [if_pos h1] at h
      have e : (i + n).toNat = j := Option.some.inj h
      exact ⟨by rw [seqIndex_neg (by omega) h1, e], by omega, h1, by omega⟩
    · rw [if_neg h1] at h; cases h
theorem atI_get {α : Type} {xs : List α} {i : Int} {v : α} (h : atI xs i = some v) : ∃ j, seqIndex? i xs.length = some j ∧ xs[j]? = some v ∧ j < xs.length ∧ -(xs.length : Int) ≤ i ∧ i < xs.length := by
  unfold atI at h
  cases e : ixN xs.length i with
  | none => rw [e] at h; cases h
  | some j =>
    rw [e] at h
    obtain ⟨h1, h2, h3, h4⟩ := ixN_seq e
    exact ⟨j, h1, h, h2, h3, h4⟩
theorem atI_nat {α : Type} {xs : List α} {j : Nat} {v : α} (h : xs[j]? = some v) : atI xs (j : Int) = some v := by
  have hj : j < xs.length := (List.getElem?_eq_some_iff.mp h).1
  have e : ixN xs.length (j : Int) = some j := by
    unfold ixN
    rw [if_pos (by omega), if_pos (by omega)]; simp
  unfold atI; rw [e]; exact h

/-! ### what may be subscripted -/
/-- what stands as an index of a plain subscript -/
noncomputable def PlainIx (b : Expr) : Prop := ∀ o i, subscripted b false o i = operate [o, i] (getItem o i)
/-- a subscript by values -/
noncomputable def IxR (X : Cx) (r : R2) : Prop :=
  ∀ (value slice : Expr) (pins : List (Addr × Obj)) (s : Shared) (σ : St) (H : Hp) (x y : V) (v u : Value) (Q : VK), Inv X pins σ H s → RelV x v → RelV y u → r x y H Q →
    subscripted slice false v u = operate [v, u] (getItem v u) → wpAny (model X.prog X.w) X.A (subscriptTail value slice v u) (EP X pins σ Q) X.xe s
/-- a call of a builtin's method by values: the receiver, the arguments -/
noncomputable def MtR (X : Cx) (id : String) (r : V → List V → Hp → VK → Prop) : Prop :=
  ∀ (pins : List (Addr × Obj)) (s : Shared) (σ : St) (H : Hp) (x : V) (xs : List V) (v : Value) (us : List Value) (Q : VK), Inv X pins σ H s → RelV x v → Vals xs us → r x xs H Q →
    wpAny (model X.prog X.w) X.A (call (.builtin id) (v :: us)) (EP X pins σ Q) X.xe s
section
variable {X : Cx} {a b : Expr} {ta tb : TE} {pos : Pos}
theorem IxR.or {r r' : R2} (h : IxR X r) (h' : IxR X r') : IxR X (fun x y H Q => r x y H Q ∨ r' x y H Q) := by
  intro value slice pins s σ H x y v u Q I rx ry q hs
  rcases q with q | q
  · exact h value slice pins s σ H x y v u Q I rx ry q hs
  · exact h' value slice pins s σ H x y v u Q I rx ry q hs
/-- a[b] -/
theorem pe_ix {r : R2} (hr : IxR X r) (ha : PE X a ta) (hb : PE X b tb) (hs : PlainIx b) : PE X (.Subscript a b pos) (tOp r ta tb) := by
  intro pins s σ H Q I h
  exact Subscript_ (binT ha hb I h fun v u s2 x y H2 I2 rx ry q => hr a b pins s2 σ H2 x y v u Q I2 rx ry q (hs _ _))

noncomputable def rIxL (K : PySem.W.Frag) : R2 := fun x y H Q => ∃ p xs i v, x = .ref p ∧ y = .int i ∧ SqL K H p xs ∧ atI xs i = some v ∧ Q v H
noncomputable def rIxT (K : PySem.W.Frag) : R2 := fun x y H Q => ∃ p xs i v, x = .ref p ∧ y = .int i ∧ SqT K H p xs ∧ atI xs i = some v ∧ Q v H
noncomputable def rIxS : R2 := fun x y H Q => ∃ z i c, x = .str z ∧ y = .int i ∧ z.length ≤ sizeLine ∧ atI z.cps.toList i = some c ∧ Q (.str ⟨#[c]⟩) H
theorem ix_list : IxR X (rIxL X.K) := by
  intro value slice pins s σ H x y v u Q I rx ry h hs
  obtain ⟨p, xs, i, z, rfl, rfl, hq, he, q⟩ := h
  cases rx
  obtain ⟨t, rfl⟩ := ry
  obtain ⟨its, r, pl, hz⟩ := I.list hq
  obtain ⟨j, h1, h2, h3, h4, h5⟩ := atI_get he
  obtain ⟨w, ew, rw'⟩ := r.get h2
  have hl := r.length
  have hn := line63
  have fin : EP X pins σ Q w s := ⟨z, H, I, rw', q⟩
  by_cases h0 : 0 ≤ i
  · have hj : i.toNat = j := by
      rw [seqIndex_of h0 h5] at h1
      exact Option.some.inj h1
    exact item_listR pl.isList h0 (by omega) (by rw [hj]; simpa using ew) fin hs
  · have hj : (i + (its.toArray.size : Int)).toNat = j := by
      rw [seqIndex_neg (by omega) h4] at h1
      rw [List.size_toArray, ← hl]
      exact Option.some.inj h1
    exact subscriptTail_builtinR (x := w) pl.isList.typeIs slot_list_getitem.lookup
      (wpAny_getItem_list_neg (Q := fun r s' => r = w ∧ EP X pins σ Q r s') pl.isList (by omega) (by rw [List.size_toArray] <;> omega) (by omega) (by rw [hj]; simpa using ew) ⟨rfl, fin⟩) hs
theorem ix_tup : IxR X (rIxT X.K) := by
  intro value slice pins s σ H x y v u Q I rx ry h hs
  obtain ⟨p, xs, i, z, rfl, rfl, hq, he, q⟩ := h
  cases rx
  obtain ⟨t, rfl⟩ := ry
  obtain ⟨its, r, pl, hz⟩ := I.tuple hq
  obtain ⟨j, h1, h2, h3, h4, h5⟩ := atI_get he
  obtain ⟨w, ew, rw'⟩ := r.get h2
  have hl := r.length
  have hn := line63
  have fin : EP X pins σ Q w s := ⟨z, H, I, rw', q⟩
  exact subscriptTail_builtinR (x := w) pl.typeIs slot_tuple_getitem.lookup
    (getItem_tuple (j := j) (Q := fun r s' => r = w ∧ EP X pins σ Q r s') pl (by omega) (by omega) (by rw [List.size_toArray, ← hl]; exact h1) (by simpa using ew) ⟨rfl, fin⟩) hs
theorem ix_str : IxR X rIxS := by
  intro value slice pins s σ H x y v u Q I rx ry h hs
  obtain ⟨z, i, c, rfl, rfl, hz, he, q⟩ := h
  obtain ⟨t, rfl⟩ := rx
  obtain ⟨t', rfl⟩ := ry
  obtain ⟨j, h1, h2, h3, h4, h5⟩ := atI_get he
  have hl : z.cps.toList.length = z.length := by simp [Str.length]
  rw [hl] at h1 h4 h5
  have hn := line63
  exact tail_any (typeIs_str s z t) slot_str_getitem.lookup (getItem_str (c := c) (by
    have e1 : decide (i < -(2 ^ 63 : Int)) = false := decide_eq_false (by omega)
    have e2 : decide (i ≥ 2 ^ 63) = false := decide_eq_false (by omega)
    rw [e1, e2, Bool.or_false]) (by rw [h1]; simpa using h2) ⟨.str ⟨#[c]⟩, H, I.tok _, ⟨_, rfl⟩, q⟩) hs
/-- list, tuple or str -/
noncomputable def rIx (K : PySem.W.Frag) : R2 := fun x y H Q => rIxL K x y H Q ∨ rIxT K x y H Q ∨ rIxS x y H Q
theorem ix_seq : IxR X (rIx X.K) := ix_list.or (ix_tup.or ix_str)

/-! ### xs[i] = v, any sign -/

/-! ### slices -/
theorem slice_bounds (lo hi : Option Int) (n : Nat) : (sliceBounds lo hi none n).1 = ((HT.sIx n 0 lo : Nat) : Int) ∧ (sliceBounds lo hi none n).2.1 = ((HT.sIx n n hi : Nat) : Int) ∧ (sliceBounds lo hi none n).2.2 = 1 := by
  refine ⟨?_, ?_, rfl⟩
  · cases lo with
    | none => simp [sliceBounds, HT.sIx]
    | some i =>
      simp only [sliceBounds, HT.sIx, Option.getD_none, show (1 : Int) > 0 by decide, if_true]
      by_cases h : i < 0
      · simp only [h, if_true] <;> omega
      · simp only [h, if_false] <;> omega
  · cases hi with
    | none => simp [sliceBounds, HT.sIx]
    | some i =>
      simp only [sliceBounds, HT.sIx, Option.getD_none, show (1 : Int) > 0 by decide, if_true]
      by_cases h : i < 0
      · simp only [h, if_true] <;> omega
      · simp only [h, if_false] <;> omega
theorem slicePick_cut (its : List Value) (lo hi : Option Int) : slicePick its.toArray lo hi none = ((its.drop (HT.sIx its.length 0 lo)).take (HT.sIx its.length its.length hi - HT.sIx its.length 0 lo)).toArray := by
  obtain ⟨h1, h2, h3⟩ := slice_bounds lo hi its.toArray.size
  unfold slicePick
  rw [h1, h2, h3]
  simp only [sliceRange_one, pick_run, List.size_toArray] <;> rfl
/-- xs[lo:hi] of a list: a new list -/
noncomputable def rSlL (K : PySem.W.Frag) : V → Option Int → Option Int → Hp → VK → Prop := fun x lo hi H Q => ∃ a xs, x = .ref a ∧ SqL K H a xs ∧ ∀ p, H p = none → Q (.ref p) (upd H p (.lst (cutV xs lo hi)))
theorem sl_list : SlR X (rSlL X.K) := by
  intro pins s σ H x v vl vu lo hi sl Q I rx hs pl pu h
  obtain ⟨a, xs, rfl, hx, q⟩ := h
  cases rx
  obtain ⟨its, r, ht, hz⟩ := I.list hx
  have hlen := r.length
  refine ⟨"list", _, slot_list_getitem.lookup, ht.isList.typeIs, ?_⟩
  refine wpAny_getItem_list_slice ht.isList hs pl pu .none (by simp) ?_ (by rw [List.size_toArray] <;> omega)
  rw [slicePick_cut, ← hlen]
  refine ⟨.ref s.heap.objs.size, _, I.laid (t' := s.toks) (o := .lst (cutV xs lo hi)) (fun b ob q => Heap.get?_push_of_some _ q) (Nat.le_refl _) ?_, rfl, q _ (I.hok.fresh (Nat.le_refl _))⟩
  exact ⟨Nat.le_trans (cutV_length xs lo hi) hz, _, 0, (r.drop (HT.sIx xs.length 0 lo)).take (HT.sIx xs.length xs.length hi - HT.sIx xs.length 0 lo), Heap.get?_push_size _ rfl⟩

/-! ### in, not in: flat items -/

/-! ### len, list(x), tuple(x) of any list or tuple that is read -/
theorem call_tuple_of : CallR X (.type "tuple") (fun xs H Q => ∃ p ys, xs = [.ref p] ∧ ((SqL X.K H p ys ∧ ∀ l, H l = none → Q (.ref l) (upd H l (.tup ys))) ∨ (SqT X.K H p ys ∧ Q (.ref p) H))) := by
  intro pins s σ H xs us Q I r h
  obtain ⟨p, ys, rfl, h⟩ := h
  obtain ⟨u, rfl, rx⟩ := vals1 r
  cases rx
  rcases h with ⟨hq, q⟩ | ⟨hq, q⟩
  · obtain ⟨its, r', pl, hz⟩ := I.list hq
    have hlen := r'.length
    refine call_tuple_list pl.isList (fun h' kp => ?_) (by simp only [List.size_toArray] <;> omega)
    have I1 : Inv X pins σ H { s with heap := h' } := I.kept (t' := s.toks) kp
    have I2 : Inv X pins σ (upd H h'.objs.size (.tup ys)) { s with heap := h'.push { cls := .type "tuple", data := .seq its.toArray } } :=
      I1.laid (t' := s.toks) (fun b o e => Heap.get?_push_of_some _ e) (Nat.le_refl _) (show ObjOk X.prog X.w _ _ _ (.tup ys) from ⟨hz, its, r', IsTup.new _ _⟩)
    exact ⟨.ref h'.objs.size, _, I2, rfl, q _ (I1.hok.fresh (Nat.le_refl _))⟩
  · obtain ⟨its, r', pl, hz⟩ := I.tuple hq
    exact call_tuple_same pl ⟨.ref p, H, I, rfl, q⟩

/-! ### the call of a builtin's method: o.m(..) -/
/-- the value is of that builtin type -/
noncomputable def tyV (K : PySem.W.Frag) (T : String) (x : V) (H : Hp) : Prop := match x with
  | .str _ => T = "str"
  | .int _ => T = "int"
  | .ref p => (T = "list" ∧ ∃ xs, SqL K H p xs) ∨ (T = "tuple" ∧ ∃ o, K.lookup p = some o ∧ o.cls = .type "tuple" ∧ o.dict = none) ∨
      (T = "dict" ∧ ((∃ kvs, H p = some (.dK kvs)) ∨ ∃ kvs, H p = some (.dT kvs))) ∨ (T = "set" ∧ ∃ S n, H p = some (.set S n))
  | _ => False
theorem tyV_is {pins : List (Addr × Obj)} {σ : St} {H : Hp} {s : Shared} {T : String} {x : V} {v : Value} (I : Inv X pins σ H s) (r : RelV x v) (ty : tyV X.K T x H) :
    s.TypeIs v T ∧ ∀ a, v = .ref a → ∃ ob, s.heap.get? a = some ob ∧ ob.dict = none := by
  cases x with
  | str z =>
    obtain ⟨t, rfl⟩ := r
    cases (show T = "str" from ty)
    exact ⟨typeIs_str s z t, fun _ e => nomatch e⟩
  | int i =>
    obtain ⟨t, rfl⟩ := r
    cases (show T = "int" from ty)
    exact ⟨typeIs_int s i t, fun _ e => nomatch e⟩
  | ref p =>
    cases r
    rcases ty with ⟨rfl, xs, hq⟩ | ⟨rfl, o, hk, hc, hd⟩ | ⟨rfl, hk⟩ | ⟨rfl, S, n, hk⟩
    · obtain ⟨its, _, pl, _⟩ := I.list hq
      refine ⟨pl.isList.typeIs, fun a e => ?_⟩
      cases e
      obtain ⟨o, n, e, c, hd, _⟩ := pl
      exact ⟨o, e, hd⟩
    · refine ⟨⟨o, I.kIn p o hk, hc⟩, fun a e => ?_⟩
      cases e
      exact ⟨o, I.kIn _ o hk, hd⟩
    · have z : ∃ o, s.heap.get? p = some o ∧ o.ExactDict := by
        rcases hk with ⟨kvs, hk⟩ | ⟨kvs, hk⟩
        · obtain ⟨_, _, _, _, o, _, _, e, ex, _⟩ := I.hok p _ hk
          exact ⟨o, e, ex⟩
        · obtain ⟨_, _, _, _, o, _, _, e, ex, _⟩ := I.hok p _ hk
          exact ⟨o, e, ex⟩
      obtain ⟨o, e, ex⟩ := z
      refine ⟨⟨o, e, ex.1⟩, fun a e2 => ?_⟩
      cases e2
      exact ⟨o, e, ex.2.1⟩
    · obtain ⟨o, _, _, _, e, ex, _⟩ := I.hok p _ hk
      refine ⟨⟨o, e, ex.1⟩, fun a e2 => ?_⟩
      cases e2
      exact ⟨o, e, ex.2.1⟩
  | _ => exact False.elim ty
noncomputable def tBM (K : PySem.W.Frag) (T : String) (r : V → List V → Hp → VK → Prop) (to : TE) (t : TA) : TE := fun σ H Q => to σ H fun x H1 => tyV K T x H1 ∧ t σ H1 fun xs H2 => r x xs H2 Q
variable {o e : Expr} {es : List Expr} {to : TE} {t : TA} {name : Str} {apos cpos : Pos} {T id : String} {r : V → List V → Hp → VK → Prop}
theorem pe_bm (pa : PlainAttrs T) (slot : Slot T name id) (hty : typeOf (.builtin id) = pure (.type "method_descriptor")) (hm : MtR X id r) (ho : PE X o to) (ha : PA X (e :: es) t)
    (hbase : attributeBase o name X.env (eval o X.env) = eval o X.env := by rfl)
    (hfew : ((backTo cpos (starEach (e :: es) X.env)).all (fun x => !x.1) && (backToKw cpos (keywordEach [] X.env)).all (fun x => x.1.isSome)
      && decide ((e :: es).length + ([] : List Keyword).length + (if ([] : List Keyword).isEmpty then 0 else 1) < 30)) = true := by rfl)
    (hline : (apos.endLine == cpos.line) = true := by rfl) (hs : starEach (e :: es) X.env = (false, eval e X.env) :: starEach es X.env := by rfl) (hplain : (backTo cpos (starEach es X.env)).any (·.1) = false := by rfl) :
    PE X (.Call (.Attribute o name apos) (e :: es) [] cpos) (tBM X.K T r to t) := by
  intro pins s σ H Q I h
  refine wpAny_Call_method_late hbase hfew hline rfl (thn (ho pins s σ H _ I h) fun v s1 ⟨x, H1, I1, r1, ty, q1⟩ => ?_)
  obtain ⟨h1, h2⟩ := tyV_is I1 r1 ty
  refine ⟨T, id, pa, slot, hty, h1, h2, ?_⟩
  have hA := ha cpos pins s1 σ H1 _ I1 q1
  rw [hs] at hA ⊢
  refine Calls.callWith_builtin (by show (false || (backTo cpos (starEach es X.env)).any (·.1)) = false; rw [hplain] <;> rfl) (Calls.evalArgs_plain ?_)
  exact thn hA fun us s2 ⟨vs, H2, I2, r2, q2⟩ => hm pins s2 σ H2 x vs v us Q I2 r1 r2 q2
/- xs.append(e), list.index on a module's tuple .. are MtR facts of 06m -/
end
end L2

namespace L2
open PySem PySem.Spec PyProof.Rows

noncomputable def MtM (X : Cx) (id : String) (r : V → List V → Hp → VK → Prop) : Prop :=
  ∀ (pins : List (Addr × Obj)) (s : Shared) (σ : St) (H : Hp) (x : V) (xs : List V) (v : Value) (us : List Value) (Q : VK), Inv X pins σ H s → RelV x v → Vals xs us → r x xs H Q →
    wpAny (model X.prog X.w) X.A (call (.builtin id) (v :: us)) (EP X pins σ Q) X.xe s

/-! ### lists of values -/
theorem Vals.one : ∀ {x : V} {us : List Value}, Vals [x] us → ∃ u, us = [u] ∧ RelV x u
  | _, _, .cons r .nil => ⟨_, rfl, r⟩
theorem Vals.zero : ∀ {us : List Value}, Vals [] us → us = []
  | _, .nil => rfl
theorem Vals.rep {xs : List V} {us : List Value} (h : Vals xs us) : ∀ k : Nat, Vals (List.replicate k xs).flatten (List.replicate k us).flatten
  | 0 => .nil
  | k + 1 => by
    rw [List.replicate_succ, List.replicate_succ, List.flatten_cons, List.flatten_cons]
    exact Vals.append h (Vals.rep h k)
theorem foldl_rep (its : List Value) : ∀ (k : Nat) (acc : List Value),
    List.foldl (fun x1 x2 => x1 ++ x2) acc.toArray (List.replicate k its.toArray) = (acc ++ (List.replicate k its).flatten).toArray
  | 0, acc => by simp
  | k + 1, acc => by
    have e : acc.toArray ++ its.toArray = (acc ++ its).toArray := by simp
    have e2 : (acc ++ its) ++ (List.replicate k its).flatten = acc ++ (List.replicate (k + 1) its).flatten := by
      rw [List.replicate_succ, List.flatten_cons, List.append_assoc]
    rw [← e2, ← foldl_rep its k (acc ++ its), ← e, List.replicate_succ, List.foldl_cons]

section
variable {X : Cx} {pins : List (Addr × Obj)} {σ : St} {H : Hp} {s : Shared} {l b : Addr} {xs ys zs : List V}

/-! ### the two steps: a tracked list is rewritten, a new list is laid -/
theorem Inv.lset {its its' : List Value} {n : Nat} {f : Array Value → Array Value} {t' : Nat} (I : Inv X pins σ H s) (hH : H l = some (.lst xs))
    (e : s.heap.get? l = some { cls := .type "list", data := .seq its.toArray n }) (hf : f its.toArray = its'.toArray) (hv : Vals ys its') (hz : ys.length ≤ sizeLine) :
    Inv X pins σ (upd H l (.lst ys)) { s with heap := s.heap.update l (Obj.mapSeq f), toks := t' } := by
  have q := PySem.IsL.update e f
  rw [hf] at q
  refine I.write (x := l) (e := l) (by rw [hH]; exact trivial) (.inl rfl) (fun b' u hb hu => (Heap.get?_update_other s.heap (Obj.mapSeq f) (Ne.symm hb)).trans hu) ⟨_, q⟩ ?_
  exact ⟨hz, its', _, hv, q⟩
theorem Inv.lnew {its : List Value} {t' : Nat} (I : Inv X pins σ H s) (hv : Vals ys its) (hz : ys.length ≤ sizeLine) :
    Inv X pins σ (upd H s.heap.objs.size (.lst ys)) { s with heap := s.heap.push { cls := .type "list", data := .seq its.toArray }, toks := t' } :=
  I.laid (fun _ _ q => Heap.get?_push_of_some _ q) (Nat.le_refl _) ⟨hz, its, 0, hv, Heap.get?_push_size _ rfl⟩
theorem Inv.fresh (I : Inv X pins σ H s) : H s.heap.objs.size = none := I.hok.fresh (Nat.le_refl _)
theorem Inv.lstM (I : Inv X pins σ H s) (hH : H l = some (.lst xs)) : xs.length ≤ sizeLine ∧ ∃ (its : List Value) (n : Nat), Vals xs its ∧ xs.length = its.length ∧ s.heap.get? l = some { cls := .type "list", data := .seq its.toArray n } := by
  obtain ⟨z, its, n, r, e⟩ := I.hok l _ hH
  exact ⟨z, its, n, r, r.length, e⟩

theorem notLongL {n : Nat} (h : n ≤ sizeLine) : Builtin.List.listTooLong n = false := by
  unfold Builtin.List.listTooLong
  exact decide_eq_false (by omega)
end

section
variable {X : Cx}

/-! ### methods -/
noncomputable def rAppend : V → List V → Hp → VK → Prop := fun x vs H Q => ∃ l xs y, x = .ref l ∧ vs = [y] ∧ H l = some (.lst xs) ∧ xs.length < sizeLine ∧ Q .non (upd H l (.lst (xs ++ [y])))
theorem mt_append : MtM X "list.append" rAppend := by
  intro pins s σ H x vs v us Q I rx rv h
  obtain ⟨l, xs, y, rfl, rfl, hH, hz, q⟩ := h
  cases rx
  obtain ⟨u, rfl, ru⟩ := rv.one
  obtain ⟨z, its, n, r, hl, e⟩ := I.lstM hH
  refine call_meets F.slot_list_append ⟨_, e, rfl⟩ F.entry_list_append (F.args_list_append_2 _ _) (PySem.list_append l its.toArray n u (by rw [List.size_toArray]; omega)) ⟨e, ?_⟩
  refine ⟨.non, _, I.lset (its' := its ++ [u]) hH e (by simp) (r.append (.cons ru .nil)) ?_, rfl, q⟩
  rw [List.length_append, List.length_singleton]
  omega






/-! ### list + list, list += list, list * int -/
theorem len_rep {α : Type} (xs : List α) (k : Nat) : (List.replicate k xs).flatten.length = k * xs.length := by
  induction k with
  | zero => simp
  | succ k ih => rw [List.replicate_succ, List.flatten_cons, List.length_append, ih, Nat.succ_mul, Nat.add_comm]

/-! ### del xs[i] -/
end

/-! ### xs[a:b] = ys -/
section
variable {prog : Program} {w : World} {A : Around} {E : Value → Shared → Prop} {s : Shared}
set_option maxRecDepth 100000 in
end

section
variable {X : Cx}
end
end L2

namespace Att
open PySem PySem.W PySem.Calls PyProof.Rows

/-! ### the script -/
theorem ints_of_wellAll {P : Params} {h : Heap} : ∀ (ns : List Int) (vs : List Value), WellAll P h vs (ns.map WData.int) → IntsAre vs ns := by
  intro ns
  induction ns with
  | nil =>
    intro vs w
    rw [List.map_nil] at w
    cases w
    exact .nil
  | cons n ns ih =>
    intro vs w
    rw [List.map_cons] at w
    cases w with
    | cons a b =>
      cases a
      exact .cons _ _ (ih _ b)

theorem script_of {l : OpenLaw} {n : Nat} (hn : l.most = some n) {P : Params} {h : Heap} {args : List WData} {vals : List Value}
    (hpre : l.row.toRowW.claim.pre args = true) (hwl : WellAll P h vals args) :
    ∃ a vs ns, vals = [Value.ref a] ∧ args = [WData.list (ns.map WData.int)] ∧ h.get? a = some { cls := .type "list", data := .seq vs.toArray } ∧ IntsAre vs ns ∧ ns.length ≤ n := by
  have hsh : WShape.hasAll [] args [.list .int] = true := (pre_splitW hpre).1
  have hc : l.pre.holds [] { args := args } = true := (pre_splitW hpre).2
  obtain ⟨d, r, rfl, h1, h2⟩ := hasAllW_cons hsh
  obtain rfl := hasAllW_nil h2
  obtain ⟨xs, rfl, h3⟩ := hasW_list h1
  obtain ⟨ns, rfl⟩ := items_int h3
  have hlen : ns.length ≤ n := by
    unfold OpenLaw.pre at hc
    have h4 : (WTm.not (.lt (.lit (.int (n : Int))) (.len (.arg 0)))).holds [] { args := [.list (ns.map .int)] } = true := by
      have h4 := (holds_andW hc).1
      rw [hn] at h4
      exact h4
    have h5 := condW_of h4 (w_not (w_lt w_lit (w_len_list (w_arg rfl))))
    rw [List.length_map] at h5
    refine Nat.le_of_not_lt fun q => ?_
    have q' : (n : Int) < ((ns.length : Nat) : Int) := by omega
    first
      | (rw [decide_eq_true q'] at h5; exact absurd h5 (by decide))
      | (simp at h5; omega)
  cases hwl with
  | cons w1 w2 =>
    cases w2
    cases w1 with
    | list ho hall => exact ⟨_, _, ns, rfl, rfl, ho, ints_of_wellAll ns _ hall, hlen⟩

theorem post_true (l : OpenLaw) (args : List WData) : l.row.toRowW.claim.post args (.bool true) args = true :=
  postW_of (r := l.row.toRowW) (X := (true == true))
    (show WShape.has [] (.bool true) .bool = true by first | rfl | decide | simp [WShape.has, WShape.arms, WShape.armsAll])
    (show (WTm.eq .res (.lit (.bool true))).value [] { args := args, res := some (.bool true), after := args } = some (.bool (true == true)) from w_eq_bool (w_res rfl) w_lit) rfl

/-! ### the attachment: holds_open's last premise (the goal 'hc' behind k_head) from a wpAny of the law's body -/

/-- the same from a codeAny of the CALL (for a layer whose function contracts speak of calls) -/
theorem attach_call {l : OpenLaw} {n : Nat} {q : Program} {loose : List Str} {XP : (Str → Option Value) → Heap → Prop} {YP : World → Heap → Prop} {d : DefRec}
    (hn : l.most = some n) (hdf : d.params.defaults = [])
    (call : ∀ (w : World) (s₀ s₁ : Shared) (mg mb : Str → Option Value) (fa : Addr) (o : Obj) (pm cd doc : Value) (a : Addr) (vs : List Value) (ns : List Int),
      Ground q loose [] XP w s₀ mg mb s₁.heap → YP w s₁.heap →
      s₁.heap.get? fa = some o → o.data = .func (docDef d.name d.params d.body d.scope pm cd doc) → s₁.heap.CodeRec cd d.name → mg d.name = some (.ref fa) →
      s₁.heap.get? a = some { cls := .type "list", data := .seq vs.toArray } → IntsAre vs ns → ns.length ≤ n → s₁.gens = #[] →
      codeAny (model l.prog w) callerA (.call (.ref fa) ⟨[.ref a], []⟩) (fun r s' => r = .ok (.ret (.bool true)) ∧ OldK s₁.heap s'.heap ∧ s'.os = s₁.os ∧ AllBare s'.gens) s₁) :
    WalkO q loose XP YP l.row.toRowW d [] (fun f vs => PySem.call f vs) := by
  intro w s₀ s₁ mg mb G Y fa o pm cd doc dV kV ho hd hcd hD hmg hg args vals as hpre hlay hrd hwl hlo
  obtain rfl : dV = .none := Dflts.none hD hdf
  obtain rfl : kV = .none := Dflts.noKw hD
  obtain ⟨a, vs, ns, rfl, rfl, hobj, hints, hlen⟩ := script_of hn hpre hwl
  refine enter_call (codeAny_mono (call w s₀ s₁ mg mb fa o pm cd doc a vs ns G Y ho (fd_plain hd) hcd hmg hobj hints hlen hg) fun r s' hq => ?_)
  obtain ⟨rfl, h2, h3, h4⟩ := hq
  exact ⟨.inl ⟨.bool true, .bool true, [], rfl, fun _ => rfl, .bool true, post_true l _, fun _ => ⟨List.Pairwise.nil, fun _ hm => (nomatch hm)⟩⟩, h2, h3, h4⟩


/-! ### rules over ANY heap (no ledger) from facts about the written part K: the library's own take a ledger (News) for what they write -/
section
variable {prog : Program} {w : World} {A : Around} {E : Value → Shared → Prop} {s : Shared} {K : Frag}





/-! the whole heap as the ledger: makes every rule that writes through a ledger a rule over any heap -/

end
end Att

namespace L2
open PySem PySem.Spec PyProof.Rows

theorem vals_ints : ∀ {vs : List Value} {ns : List Int}, IntsAre vs ns → Vals (ns.map V.int) vs
  | _, _, .nil => .nil
  | _, _, .cons n t h => .cons ⟨t, rfl⟩ (vals_ints h)

/-- nothing is tracked but the script, known to the object (or it is an object of the module) -/
noncomputable def Only (H : Hp) : Prop := ∀ b, H b = none ∨ ∃ o xs, H b = some (.frz o (.lst xs))

/-- THE HEAD: the law's promise, at the heap behind the top. F, the promise of the law's def, may use that base is part of the heap (so K.In base, base.Ns mainGlobals mg stand in Mod) -/
theorem law_call {P : Program} {w : World} {K : PySem.W.Frag} {mg mb : Str → Option Value} {CX : CXT} {k : Nat} {fa a : Addr} {fd : FuncData} {x : Str} {sp : Sp} {s₁ : Shared} {vs : List Value} {ns : List Int}
    (KX : K.In s₁.heap) (hns : s₁.heap.Ns mainGlobals mg) (hb : s₁.heap.Ns builtinsNs mb) (hbb : ∀ x : Str, x ≠ "__name__" → mb x = bootBuiltins x) (hlim : s₁.heap.NoLimit) (hg : s₁.gens = #[])
    (ha : s₁.heap.get? a = some { cls := .type "list", data := .seq vs.toArray }) (hi : IntsAre vs ns) (hl : ns.length ≤ sizeLine) (hr : Room k callerA)
    (F : ∀ base : Heap, K.In base → base.Ns mainGlobals mg → FnOk P w K mg base CX k fa fd [x] sp) (hbind : ∀ (s : Shared) (u : Value), BindsTo s fd ⟨[u], []⟩ [(x, u)])
    (hsp : ∀ H : Hp, Only H → SqL K H a (ns.map V.int) → sp [.ref a] H (fun v _ => v = .bl true) fun _ _ _ => False)
    (hCX : ∀ H e s', CX [] H s₁ (fun _ _ _ => False) e s' → False) :
    codeAny (model P w) callerA (.call (.ref fa) ⟨[.ref a], []⟩) (fun r s' => r = .ok (.ret (.bool true)) ∧ OldK s₁.heap s'.heap ∧ s'.os = s₁.os ∧ AllBare s'.gens) s₁ := by
  have rv := vals_ints hi
  have lenV := hi.length
  -- from an abstract heap in which nothing but the script may be tracked
  have core : ∀ H : Hp, Only H → SqL K H a (ns.map V.int) → HOk P w H s₁.heap → (∀ b, H b ≠ none → b = a) → (H a ≠ none → K.lookup a = none) →
      codeAny (model P w) callerA (.call (.ref fa) ⟨[.ref a], []⟩) (fun r s' => r = .ok (.ret (.bool true)) ∧ OldK s₁.heap s'.heap ∧ s'.os = s₁.os ∧ AllBare s'.gens) s₁ := by
    intro H hO hS hok hA hK
    have base_of : ∀ {b : Addr} {o : Obj}, s₁.heap.get? b = some o → H b = none → (hidT s₁.heap H).get? b = some o := fun e n => hidT_get e n
    have noA : ∀ {b : Addr} {o : Obj} {es : Array DictEntry} {ep : Nat}, s₁.heap.get? b = some o → o.data = .dict es ep → H b = none := fun {b o es ep} e d => by
      cases q : H b with
      | none => rfl
      | some u =>
        have e' : b = a := hA b (by rw [q]; simp)
        subst e'
        rw [ha] at e; cases e
        have d' : Data.seq vs.toArray _ = Data.dict es ep := d
        cases d'
    have nsK : ∀ {b : Addr} {m : Str → Option Value}, s₁.heap.Ns b m → (hidT s₁.heap H).Ns b m := fun {b m} ⟨o, es, ep, e, d, r⟩ => ⟨o, es, ep, base_of e (noA e d), d, r⟩
    have hKb : K.In (hidT s₁.heap H) := fun b o e => base_of (KX b o e) (by
      cases q : H b with
      | none => rfl
      | some u =>
        have e' : b = a := hA b (by rw [q]; simp)
        subst e'
        rw [hK (by rw [q]; simp)] at e; cases e)
    have hM : Mod K mg (hidT s₁.heap H) := ⟨hKb, nsK hns, ⟨mb, nsK hb, hbb⟩, let ⟨mc, h1, h2⟩ := hlim; ⟨mc, nsK h1, h2⟩⟩
    have e0 : Env0 P w K mg (hidT s₁.heap H) callerA [] s₁ H := ⟨rfl, hM, fun b o e => of_hidT e, Nat.le_of_eq (hidT_size _ _), trivial, fun b hb => absurd (show b ∈ ([] : List Addr) from hb) (by simp), hok, .of_eq hg⟩
    refine codeAny_mono ((F _ hKb (nsK hns)).run callerA [] s₁ H ⟨[.ref a], []⟩ [.ref a] [.ref a] _ _ hr e0 (hbind s₁ (.ref a)) (.cons rfl .nil) (hsp H hO hS)) fun r s' h => ?_
    cases r with
    | error e => exact (hCX H e s' h).elim
    | ok fl =>
      cases fl with
      | next => exact False.elim h
      | brk => exact False.elim h
      | cont => exact False.elim h
      | ret u =>
        obtain ⟨v, H', os, bare, un, hok', r', q⟩ := h
        have q' : v = .bl true := q
        subst q'
        obtain rfl : u = Value.bool true := r'
        refine ⟨rfl, OldK.of_keep fun b o e => ?_, os, bare⟩
        cases q : H b with
        | none => exact un.keep b o e q (by intro z; exact absurd (show b ∈ ([] : List Addr) from z) (by simp)) (by simp)
        | some u =>
          rcases hO b with z | ⟨ob, xs, z⟩
          · rw [q] at z; cases z
          · have z2 := un.frzs b ob _ z
            obtain ⟨e1, _⟩ := hok b _ z
            obtain ⟨e2, _⟩ := hok' b _ z2
            rw [e] at e1; cases e1
            exact e2
  cases hk : K.lookup a with
  | some o =>
    -- the script is one of the module's own objects
    have e := KX a o hk
    rw [ha] at e
    cases e
    refine core (fun _ => none) (fun _ => .inl rfl) (.inr ⟨_, vs.toArray, _, hk, rfl, rfl, rfl, by rw [List.size_toArray, lenV]; exact hl, by simpa using rv⟩) (fun b u z => by have z' : (none : Option HO) = some u := z; cases z') (fun b z => absurd rfl z) fun z => absurd rfl z
  | none =>
    refine core (fun b => if b = a then some (.frz { cls := .type "list", data := .seq vs.toArray } (.lst (ns.map V.int))) else none) (fun b => ?_) (.inl (.inr ⟨{ cls := .type "list", data := .seq vs.toArray }, if_pos rfl⟩)) (fun b u z => ?_) (fun b z => ?_) fun _ => hk
    · by_cases hb : b = a
      · exact .inr ⟨_, _, if_pos hb⟩
      · exact .inl (if_neg hb)
    · by_cases hb : b = a
      · have z' := (if_pos hb).symm.trans z
        cases z'
        subst hb
        exact ⟨ha, by rw [List.length_map]; exact hl, vs, _, rv, ha⟩
      · have z' := (if_neg hb).symm.trans z
        cases z'
    · by_cases hb : b = a
      · exact hb
      · exact absurd (if_neg hb) z
end L2

namespace L2
open PySem PySem.Spec PyProof.Rows


end L2

/- THE LAST THEOREM (shape; LID, My.* are yours):
   My.Adr: a structure of the addresses that your layer names (classes, functions); My.Txt K t: a structure (Prop) of the equations over K;
   My.txt_mk : {K} {implicit addresses ..} (e1 : nsIn K mainGlobals "law" = some (some (.ref f))) (e2 : K.lookup f = some ⟨oc, od, .func (fnOf "law" "law" params body scope dV kV doc pm an cdv ct), sl⟩) (e3 : codeIn K cdv "law" = true) .. : ∃ t, My.Txt K t

set_option maxRecDepth 100000 in
set_option maxHeartbeats 0 in
theorem PySem.Challenge.cw_LID_holds : PySem.Challenge.rw_LID.Holds := by
  w_on; o_law; k_head; (case hw => w_witness2)
  k_fill
  refine L2.walk_of (l := PySem.Challenge.rw_LID) (n := 63) (k := 40) (x := "script") (CX := fun w => ..) (sp := fun _ => My.sp_law) rfl (by decide) rfl ⟨rfl, by decide, by decide⟩ (fun w h Y => PySem.W.kIn_of Y) ?F ?S ?C
  case F =>
    intro w mg fa h KX G hmg
    have T : ∃ t, My.Txt (L2.KOf KX) t := by
      dsimp only [L2.KOf]                          -- K must stand as «<heap const> w.params» for k_is
      refine' My.txt_mk ?e1 ?e2 ?e3 ..
      (case e1 => PySem.W.k_is)                    -- in the order: a name -> its address -> its object -> its parts
      (case e2 => PySem.W.k_is)
      ..
    obtain ⟨t, T⟩ := T
    have e0 := hmg.symm.trans (PySem.W.mg_of KX G T.law)
    cases e0                                       -- fa is the law's own address
    exact ⟨_, fun s u => .of_eq rfl, fun base kb nb => My.law_fn T kb nb⟩     -- if «.of_eq rfl» comes too early: refine' ⟨_, ?b, fun base kb nb => My.law_fn T kb nb⟩; exact fun s u => .of_eq rfl
  case S => exact fun w H a ns hl hO hS => ..
  case C => exact ..
(the tactic k_is has no namespace: write k_is) -/

/-! SHORT WORDS over the layer: a def of the text, its body, what a loop and a test want. -/
namespace L2
open PySem PySem.Spec PyProof.Rows

/-! ### the text by places -/
noncomputable def defArgs (s : Stmt) : Arguments := match s with
  | .FunctionDef _ a _ _ _ _ _ _ _ _ => a
  | _ => { posonlyargs := [], args := [], vararg := none, kwonlyargs := [], kw_defaults := [], kwarg := none, defaults := [] }
noncomputable def defBody (s : Stmt) : List Stmt := match s with
  | .FunctionDef _ _ b _ _ _ _ _ _ _ => b
  | _ => []
noncomputable def defScope (s : Stmt) : Scope := match s with
  | .FunctionDef _ _ _ _ _ _ sc _ _ _ => sc
  | _ => { kind := .function, names := [], isGenerator := false, isCoroutine := false }

/-! ### no exception leaves a def -/
noncomputable abbrev CX0 : CXT := fun _ _ _ _ _ _ => False
noncomputable abbrev E0 : XK := fun _ _ _ => False
theorem pass0 {X : Cx} : Passes CX0 X E0 := fun _ _ _ _ _ _ _ h => h.elim

/-! ### a def (or method) of the text as it stands behind the top -/
structure Fun (K : PySem.W.Frag) (x qual : Str) (st : Stmt) (f : Addr) (fd : FuncData) : Prop where
  ex : ∃ (oc : Value) (od : Option Addr) (kV doc pm : Value) (an : Option Addr) (cdv ct : Value) (osl : Array (Option Value)),
    fd = PySem.W.fnOf x qual (defArgs st) (defBody st) (defScope st) .none kV doc pm an cdv ct ∧ K.lookup f = some ⟨oc, od, .func fd, osl⟩ ∧ PySem.W.codeIn K cdv qual = true
  kp : PySem.W.keepIn K (.ref f) = true
section
variable {P : Program} {w : World} {K : PySem.W.Frag} {mg : Str → Option Value} {base : Heap}
/-- THE RULE for a def: its body as a term of rules, and the reading of that term -/
theorem Fun.ok {x qual : Str} {st : Stmt} {f : Addr} {fd : FuncData} {N ps : List Str} {k : Nat} {sp : Sp} (F : Fun K x qual st f fd) (S : FnScope N ps (defScope st)) (len : ∀ vs H Q E, sp vs H Q E → vs.length = ps.length)
    (hbody : ∀ (cdv : Value) (A : Around) (outer : List Env) (s : Shared) (H : Hp) (vs : List V) (Q : VK) (E : XK), Room k (A.deeper (envOfC qual (defScope st) s.heap.objs.size f cdv)) → sp vs H Q E →
      ∃ t, PSs (cxOf CX0 P w K mg base N qual (defScope st) f cdv A outer s H E).nox (defBody st) t ∧ t { nx := fun _ H' => Q .non H', rt := Q } (start N vs) H) : FnOk P w K mg base CX0 (k + 1) f fd ps sp := by
  obtain ⟨oc, od, kV, doc, pm, an, cdv, ct, osl, rfl, lk, hcd⟩ := F.ex
  refine fn_of lk hcd S len fun A outer s H vs Q E hr hsp => ?_
  obtain ⟨t, h, q⟩ := hbody cdv A outer s H vs Q E hr hsp
  exact ⟨t, h.nox, q⟩
/-- how its arguments bind (no defaults): h is «fun _ _ _ _ _ _ us hl => match us, hl with | [_, _], _ => rfl», one _ a parameter -/
theorem Fun.binds {x qual : Str} {st : Stmt} {f : Addr} {fd : FuncData} {ps : List Str} (F : Fun K x qual st f fd)
    (h : ∀ (kV doc pm : Value) (an : Option Addr) (cdv ct : Value) (us : List Value), us.length = ps.length → bindArgs (PySem.W.fnOf x qual (defArgs st) (defBody st) (defScope st) .none kV doc pm an cdv ct) ⟨us, []⟩ = pure (ps.zip us)) : Binds K fd ps [] := by
  obtain ⟨oc, od, kV, doc, pm, an, cdv, ct, osl, rfl, lk, hcd⟩ := F.ex
  exact .all (h kV doc pm an cdv ct)
theorem fun_mk {x qual : Str} {st : Stmt} {f : Addr} {oc : Value} {od an : Option Addr} {osl : Array (Option Value)} {kV doc pm cdv ct : Value} (l : K.lookup f = some ⟨oc, od, .func (PySem.W.fnOf x qual (defArgs st) (defBody st) (defScope st) .none kV doc pm an cdv ct), osl⟩)
    (c : PySem.W.codeIn K cdv qual = true) (k : PySem.W.keepIn K (.ref f) = true) : Fun K x qual st f (PySem.W.fnOf x qual (defArgs st) (defBody st) (defScope st) .none kV doc pm an cdv ct) := ⟨⟨oc, od, kV, doc, pm, an, cdv, ct, osl, rfl, l, c⟩, k⟩
end

/-! ### expressions in short: the name that stands in the i-th slot -/
section
variable {X : Cx}
theorem pv (i : Nat) {x : Str} {pos : Pos} (hN : X.N[i]? = some x := by rfl) (hv : Vis X.env.scope x := by first | exact Or.inl rfl | exact Or.inr (Or.inl rfl) | exact Or.inr (Or.inr rfl)) (hd : (x == ("__debug__" : Str)) = false := by decide)
    (hcd : (x == ("__classdict__" : Str)) = false := by decide) : PE X (.Name x pos) (tVar i) := pe_var hN hv hd hcd
end

/-! ### tests -/

/-! ### heaps -/
/-- all that was tracked is as it was -/
noncomputable def Same (H H' : Hp) : Prop := ∀ b o, H b = some o → H' b = some o
theorem Same.refl (H : Hp) : Same H H := fun _ _ h => h
theorem Same.trans {H H1 H2 : Hp} (a : Same H H1) (b : Same H1 H2) : Same H H2 := fun c o h => b c o (a c o h)
theorem Same.free {H H' : Hp} (e : Same H H') {l : Addr} (h : H' l = Option.none) : H l = Option.none := by
  cases q : H l with
  | none => rfl
  | some o =>
    rw [e l o q] at h
    cases h

end L2

set_option maxHeartbeats 4000000
namespace L2
open PySem PySem.Spec PyProof.Rows

/-! ## EXTENSION 1: records that turn while a thing is laid; enumerate -/
section
variable {X : Cx} {pins : List (Addr × Obj)} {σ : St} {H : Hp} {s : Shared} {h' : Heap}
theorem Inv.turnedLaid {p : Addr} {o : HO} {t' : Nat} {ch : List Addr} (I : Inv X pins σ H s) (hf : ∀ b ∈ ch, FpOk X pins H b)
    (k : ∀ b u, b ∉ ch → s.heap.get? b = some u → h'.get? b = some u) (hp : s.heap.objs.size ≤ p)
    (new : ObjOk X.prog X.w (upd H p o) h' p o) : Inv X pins σ (upd H p o) { s with heap := h', toks := t' } := by
  have hn : H p = none := I.hok.fresh hp
  have nch : ∀ b u, H b = some u → b ∉ ch := fun b u e z => by rw [(hf b z).1] at e; cases e
  have nep : ∀ b u, s.heap.get? b = some u → b ≠ p := fun b u e => Nat.ne_of_lt (Nat.lt_of_lt_of_le (Heap.lt_size e) hp)
  refine I.step (g' := s.gens) (d' := s.drawn) (ch := ch) (fun b hb => ?_) (fun b u _ _ hc e _ => k b u hc e) (fun b u _ _ hc e _ => ⟨u.slots, k b u hc e⟩)
    (fun b u _ e n => by rw [upd_ne (nep b u e)]; exact n) (fun b u hc e => ⟨u, k b u hc e⟩) (fun b xs e => by rw [upd_ne (ne_of_none e hn)]; exact e)
    (fun b u xs e => by rw [upd_ne (ne_of_none e hn)]; exact e) (fun b ps e => ⟨#[], by rw [upd_ne (ne_of_none e hn), e]; simp⟩) (fun m hm => ?_) (fun b u e => ?_) I.bare
  · obtain ⟨_, h2, _, h4, h5, h6⟩ := hf b hb
    exact ⟨h4, h2, h5, h6⟩
  · obtain ⟨ob, es, ep, ho, r⟩ := hm
    exact ⟨ob, es, ep, k _ ob (fun z => (hf _ z).2.1 rfl) ho, r⟩
  · by_cases hb : b = p
    · subst hb
      rw [upd_same] at e
      cases e
      exact new
    · rw [upd_ne hb] at e
      refine (I.hok b u e).stay (fun c v hc q => k c v ?_ q) (fun c q => by rw [upd_ne (ne_of_none q hn)]; exact q) fun c xs q => by rw [upd_ne (ne_of_none q hn)]; exact q
      rcases hc with z | z
      · rw [z]; exact nch b u e
      · exact nch c _ z
end

/-- place and item of the list at a, as tuples that are new at each turn -/
noncomputable def Ite (K : PySem.W.Frag) (a : Addr) : It :=
  ⟨fun i H => ∃ xs x, SqL K H a xs ∧ xs[i]? = some x,
   fun i H v H' => ∃ p x, H p = none ∧ v = .ref p ∧ (∀ xs, SqL K H a xs → xs[i]? = some x) ∧ H' = upd H p (.tup [.int i, x]),
   fun i H => ∃ xs, SqL K H a xs ∧ xs.length ≤ i⟩
theorem turn_enum {P : Program} {w : World} {K : PySem.W.Frag} {elts : List Expr} {kk} {tp : Pos} (a e it : Addr) (hne : e ≠ it) :
    Turn P w K (.Tuple elts kk tp) (Ite K a) [e, it] e (fun i h => (∃ old, IsEnum h e it i old) ∧ h.IsListIter it a i) where
  mem := by simp
  obj := fun i h st b hb => by
    obtain ⟨⟨old, he⟩, o, ho, _, d⟩ := st
    rcases List.mem_cons.mp hb with z | hb
    · subst z
      exact ⟨_, he, fun v z => by cases (show Data.fields _ = Data.cell v from z)⟩
    · have z : b = it := by simpa using hb
      subst z
      exact ⟨o, ho, fun v z => by rw [d] at z; cases z⟩
  keep := fun i h h' st k => by
    obtain ⟨⟨old, he⟩, hit⟩ := st
    exact ⟨⟨old, k e (by simp) _ he⟩, hit.at fun o q => k it (by simp) o q⟩
  item := by
    intro X hP hw hK hc i pins s σ H E I hf st hg
    subst hP hw hK
    obtain ⟨⟨old, he⟩, hit⟩ := st
    obtain ⟨xs, x, hq, hx⟩ := hg
    obtain ⟨its, rv, p, hz⟩ := I.list hq
    obtain ⟨u, hu, ru⟩ := rv.get hx
    refine wpAny_pyNext_enum_item he hit p.isList (x := u) (by simpa using hu) hne fun h1 ho hit1 hT hsz hk => ⟨_, rfl, ?_⟩
    refine wpAny_letOwnedTupleGo_enum (s := { s with heap := h1, toks := s.toks + 1 }) ho fun h2 he2 hs2 => ?_
    have hel : e < s.heap.objs.size := Heap.lt_size he
    have hil : it < s.heap.objs.size := by obtain ⟨_, z, _⟩ := hit; exact Heap.lt_size z
    have hn : H s.heap.objs.size = none := I.hok.fresh (Nat.le_refl _)
    have kk : ∀ b o, b ∉ [e, it] → s.heap.get? b = some o → h2.get? b = some o := fun b o hb q => by
      have h3 : b ≠ e := fun z => hb (by simp [z])
      have h4 : b ≠ it := fun z => hb (by simp [z])
      exact (hs2.2 b h3).trans (hk b o h3 h4 q)
    have hT2 : h2.get? s.heap.objs.size = some { cls := .type "tuple", data := .seq #[.int i s.toks, u] } := (hs2.2 _ (Nat.ne_of_gt hel)).trans hT
    have I2 : Inv X pins σ (upd H s.heap.objs.size (.tup [.int i, x])) { s with heap := h2, toks := s.toks + 1 } :=
      I.turnedLaid (ch := [e, it]) hf kk (Nat.le_refl _) ⟨by show 2 ≤ sizeLine; decide, [.int i s.toks, u], .cons ⟨_, rfl⟩ (.cons ru .nil), ⟨_, hT2, rfl, _, rfl⟩⟩
    refine ⟨.ref s.heap.objs.size, _, I2, rfl, ⟨_, x, hn, rfl, fun ys hy => by rw [I.list_inj hy hq]; exact hx, rfl⟩, ⟨⟨u, he2⟩, hit1.at fun o q => (hs2.2 it hne.symm).trans q⟩, fun b hb => ?_⟩
    have hb2 : b ≠ s.heap.objs.size := by
      rcases List.mem_cons.mp hb with z | hb
      · rw [z]; exact Nat.ne_of_lt hel
      · rw [show b = it by simpa using hb]; exact Nat.ne_of_lt hil
    rw [upd_ne hb2]
    exact (hf b hb).1
  done := by
    intro X hP hw hK hc i pins s σ H E I hf st hg
    subst hP hw hK
    obtain ⟨⟨old, he⟩, hit⟩ := st
    obtain ⟨xs, hq, hx⟩ := hg
    obtain ⟨its, rv, p, hz⟩ := I.list hq
    obtain ⟨f0, f1, f2, f3, f4, f5⟩ := hf it (by simp)
    have hl := rv.length
    exact wpAny_pyNext_enum_end (I.ok.hd hc) he hit p.isList (by simp; omega) fun h1 eb => ⟨rfl, I.turned (t' := s.toks) (fun b o hb q => eb b o hb q) f0 f1 f3 f4 f5⟩
  self := fun _ _ _ _ _ st h => by
    obtain ⟨⟨old, he⟩, _⟩ := st
    exact wpAny_pyIter_enum he h
noncomputable def iEnum (K : PySem.W.Frag) (ta : TA) : TI := fun σ H R => ta σ H fun vs H1 => ∃ a, vs = [.ref a] ∧ (∃ xs, SqL K H1 a xs) ∧ R (Ite K a) H1

/-! ## EXTENSION 2: equality of data; isinstance; wide floor division -/
mutual
inductive DV (K : PySem.W.Frag) (H : Hp) : V → PyData → Prop
  | non : DV K H .non .none
  | bl (b : Bool) : DV K H (.bl b) (.bool b)
  | int (i : Int) : DV K H (.int i) (.int i)
  | str (x : Str) : DV K H (.str x) (.str x)
  | tup {a : Addr} {xs : List V} {ds : List PyData} : SqT K H a xs → DVs K H xs ds → DV K H (.ref a) (.tuple ds)
  | lst {a : Addr} {xs : List V} {ds : List PyData} : SqL K H a xs → DVs K H xs ds → DV K H (.ref a) (.list ds)
inductive DVs (K : PySem.W.Frag) (H : Hp) : List V → List PyData → Prop
  | nil : DVs K H [] []
  | cons {v : V} {vs : List V} {d : PyData} {ds : List PyData} : DV K H v d → DVs K H vs ds → DVs K H (v :: vs) (d :: ds)
end
section
variable {X : Cx} {pins : List (Addr × Obj)} {σ : St} {H : Hp} {s : Shared}
mutual
theorem DV.reads (I : Inv X pins σ H s) : ∀ {v : V} {d : PyData} {u : Value}, DV X.K H v d → RelV v u → ∃ as, Reads s.heap u d as
  | _, _, _, .non, r => by cases r; exact ⟨_, .none⟩
  | _, _, _, .bl b, r => by cases r; exact ⟨_, .bool b⟩
  | _, _, _, .int i, r => by obtain ⟨t, rfl⟩ := r; exact ⟨_, .int i t⟩
  | _, _, _, .str x, r => by obtain ⟨t, rfl⟩ := r; exact ⟨_, .str x t⟩
  | _, _, _, .tup h hs, r => by
    cases r
    obtain ⟨its, rv, ⟨o, e, c, n, d⟩, _⟩ := I.tuple h
    obtain ⟨as, q⟩ := DVs.reads I hs rv
    exact ⟨_, .tuple e c d (by simpa using q)⟩
  | _, _, _, .lst h hs, r => by
    cases r
    obtain ⟨its, rv, ⟨o, n, e, c, _, d⟩, _⟩ := I.list h
    obtain ⟨as, q⟩ := DVs.reads I hs rv
    exact ⟨_, .list e c d (by simpa using q)⟩
theorem DVs.reads (I : Inv X pins σ H s) : ∀ {vs : List V} {ds : List PyData} {us : List Value}, DVs X.K H vs ds → Vals vs us → ∃ as, ReadsAll s.heap us ds as
  | _, _, _, .nil, r => by cases r; exact ⟨_, .nil⟩
  | _, _, _, .cons h hs, r => by
    cases r with
    | cons r1 r2 =>
      obtain ⟨as, q⟩ := DV.reads I h r1
      obtain ⟨bs, q2⟩ := DVs.reads I hs r2
      exact ⟨_, .cons q q2⟩
end
end
noncomputable def rEqD (K : PySem.W.Frag) (neg : Bool) : R2 := fun x y H Q => ∃ dx dy, DV K H x dx ∧ DV K H y dy ∧ dx.canLay0 = true ∧ dy.canLay0 = true ∧ dx.depth ≤ 64 ∧ Q (.bl (if neg then !PyData.eqv dx dy else PyData.eqv dx dy)) H
section
variable {X : Cx}
theorem op_eqD (hu : X.A.units + 64 < cLine) : OpR X (compareOp .Eq) (rEqD X.K false) := by
  intro pins s σ H x y v u Q I rx ry h
  obtain ⟨dx, dy, h1, h2, l1, l2, hd, q⟩ := h
  obtain ⟨as, r1⟩ := h1.reads I rx
  obtain ⟨bs, r2⟩ := h2.reads I ry
  exact PySem.SeqAt.compareEq_reads r1 r2 l1 l2 (by omega) ⟨.bl _, H, I, rfl, q⟩
theorem op_neD (hu : X.A.units + 64 < cLine) : OpR X (compareOp .NotEq) (rEqD X.K true) := by
  intro pins s σ H x y v u Q I rx ry h
  obtain ⟨dx, dy, h1, h2, l1, l2, hd, q⟩ := h
  obtain ⟨as, r1⟩ := h1.reads I rx
  obtain ⟨bs, r2⟩ := h2.reads I ry
  exact PySem.SeqAt.compareNe_reads r1 r2 l1 l2 (by omega) ⟨.bl _, H, I, rfl, q⟩
/-- // by a positive divisor of fewer than 9000 bits -/
theorem op_fdivL : OpR X (binaryOp .FloorDiv) (rI (fun _ j => 0 < j ∧ j.natAbs.log2 < 9000) fun i j => .int (i / j)) := opI fun i j _ _ _ _ _ hc q => by
  have h1 : (0 : Int) < j := hc.1
  exact floordiv_int (by omega) (by rw [Int.fdiv_eq_ediv_of_nonneg i (by omega)]; exact q) (.inl (PyProof.noPylong_of_log2 hc.2))
end
end L2
namespace L2
open PySem PySem.Spec PyProof.Rows

/-! ## EXTENSION 3: list comprehensions (one clause, no test or one) -/
/-- the cells that a comprehension takes from around it -/
noncomputable def clOf (env : Env) : List (Str × NameKind) → List (Str × Addr) → List (Str × Addr)
  | [], acc => acc
  | (n, k) :: r, acc => if (k == NameKind.free) = true then (match env.cells.lookup n with | some c => clOf env r ((n, c) :: acc) | none => clOf env r acc) else clOf env r acc
theorem forIn_clOf {env : Env} {f : Str × NameKind → List (Str × Addr) → Sem (ForInStep (List (Str × Addr)))}
    (h1 : ∀ n k acc, (k == NameKind.free) = false → f (n, k) acc = pure (.yield acc)) (h2 : ∀ n c acc, env.cells.lookup n = some c → f (n, .free) acc = pure (.yield ((n, c) :: acc))) :
    ∀ (names : List (Str × NameKind)) (acc : List (Str × Addr)), (∀ y ∈ names, y.2 = .free → ∃ c, env.cells.lookup y.1 = some c) → forIn names acc f = pure (clOf env names acc)
  | [], acc, _ => rfl
  | (n, k) :: r, acc, h => by
    have hr : ∀ y ∈ r, y.2 = .free → ∃ c, env.cells.lookup y.1 = some c := fun y hy => h y (List.mem_cons_of_mem _ hy)
    rw [List.forIn_cons]
    cases hk : (k == NameKind.free) with
    | false =>
      rw [h1 n k acc hk, pure_bind]
      show forIn r acc f = _
      rw [forIn_clOf h1 h2 r acc hr]
      simp only [clOf, hk, Bool.false_eq_true, if_false]
    | true =>
      have e : k = .free := by simpa using hk
      subst e
      obtain ⟨c, hc⟩ := h _ List.mem_cons_self rfl
      rw [h2 n c acc hc, pure_bind]
      show forIn r ((n, c) :: acc) f = _
      rw [forIn_clOf h1 h2 r _ hr]
      have hc' : env.cells.lookup n = some c := hc
      simp only [clOf, hk, if_true, hc']
theorem closure_of {env : Env} {scope : Scope} (h : ∀ y ∈ scope.names, y.2 = .free → ∃ c, env.cells.lookup y.1 = some c) : closureFor scope env = pure (clOf env scope.names []) := by
  simp only [closureFor]
  rw [forIn_clOf (env := env) (fun n k acc hk => by simp only [hk, Bool.false_eq_true, if_false]) (fun n c acc hc => by simp only [beq_self_eq_true, if_true, cellOf, hc, pure_bind]) scope.names [] h, pure_bind]
theorem clOf_sub {env : Env} : ∀ (names : List (Str × NameKind)) (acc : List (Str × Addr)), (∀ x c, acc.lookup x = some c → env.cells.lookup x = some c) → ∀ x c, (clOf env names acc).lookup x = some c → env.cells.lookup x = some c
  | [], _, h, x, c, e => h x c e
  | (n, k) :: r, acc, h, x, c, e => by
    unfold clOf at e
    split at e
    · split at e
      · rename_i c' hc'
        refine clOf_sub r _ (fun y d q => ?_) x c e
        rw [List.lookup_cons] at q
        split at q
        · rename_i hy
          cases q
          rw [eq_of_beq hy]
          exact hc'
        · exact h y d q
      · exact clOf_sub r acc h x c e
    · exact clOf_sub r acc h x c e
theorem clOf_mono {env : Env} : ∀ (names : List (Str × NameKind)) (acc : List (Str × Addr)) (x : Str), (acc.lookup x).isSome = true → ((clOf env names acc).lookup x).isSome = true
  | [], _, _, h => h
  | (n, k) :: r, acc, x, h => by
    unfold clOf
    split
    · split
      · refine clOf_mono r _ x ?_
        rw [List.lookup_cons]
        split
        · rfl
        · exact h
      · exact clOf_mono r acc x h
    · exact clOf_mono r acc x h
theorem clOf_has {env : Env} : ∀ (names : List (Str × NameKind)) (acc : List (Str × Addr)) (x : Str) (c : Addr), (x, NameKind.free) ∈ names → env.cells.lookup x = some c → ((clOf env names acc).lookup x).isSome = true
  | [], _, _, _, h, _ => by cases h
  | (n, k) :: r, acc, x, c, h, hc => by
    rcases List.mem_cons.mp h with z | h
    · cases z
      simp only [clOf, beq_self_eq_true, if_true, hc]
      exact clOf_mono r _ _ (by simp [List.lookup_cons])
    · unfold clOf
      split
      · split
        · exact clOf_has r _ x c h hc
        · exact clOf_has r acc x c h hc
      · exact clOf_has r acc x c h hc
theorem clOf_get {env : Env} {names : List (Str × NameKind)} {x : Str} {c : Addr} (h : (x, NameKind.free) ∈ names) (hc : env.cells.lookup x = some c) : (clOf env names []).lookup x = some c := by
  have q := clOf_has names [] x c h hc
  cases e : (clOf env names []).lookup x with
  | none => rw [e] at q; cases q
  | some d =>
    have z := clOf_sub names [] (fun y d q => by cases q) x d e
    rw [hc] at z
    exact z.symm
/-- a name's kind within the comprehension -/
theorem relabel_mem {env : Env} {scope : Scope} {x : Str} {k : NameKind} (h : (relabel scope env).names.lookup x = some k) : ∃ k0, (x, k0) ∈ scope.names ∧ (k = k0 ∨ (k0 = .free ∧ k = .cell)) := by
  obtain ⟨⟨n, k0⟩, hm, e⟩ := List.mem_map.mp (PySem.mem_of_lookup h)
  simp only at e
  split at e
  · rename_i hc
    cases e
    have hk : (k0 == NameKind.free) = true := by
      rw [Bool.and_eq_true, Bool.and_eq_true] at hc
      exact hc.1.1
    exact ⟨k0, hm, .inr ⟨by simpa using hk, rfl⟩⟩
  · cases e
    exact ⟨_, hm, .inl rfl⟩
theorem relabel_free {env : Env} : ∀ {names : List (Str × NameKind)} {x : Str}, names.lookup x = some .free →
    (names.map fun (n, k) => if (k == NameKind.free && env.scope.kind == .function && env.kindOf n == some .cell) then (n, NameKind.cell) else (n, k)).lookup x = some .cell ∨
    (names.map fun (n, k) => if (k == NameKind.free && env.scope.kind == .function && env.kindOf n == some .cell) then (n, NameKind.cell) else (n, k)).lookup x = some .free
  | [], _, h => by cases h
  | (n, k) :: r, x, h => by
    rw [List.lookup_cons] at h
    rw [List.map_cons]
    dsimp only
    by_cases hc : (k == NameKind.free && env.scope.kind == .function && env.kindOf n == some .cell) = true
    · rw [if_pos hc, List.lookup_cons]
      cases hx : x == n with
      | true => exact .inl rfl
      | false => rw [hx] at h; exact relabel_free h
    · rw [if_neg hc, List.lookup_cons]
      cases hx : x == n with
      | true => rw [hx] at h; exact .inr h
      | false => rw [hx] at h; exact relabel_free h

/-- the names of a comprehension: its own, then those around it (with their slots there) -/
noncomputable def compN (own : List Str) (fv : List (Str × Nat)) : List Str := own ++ fv.map (·.1)
noncomputable def compSt (own : List Str) (fv : List (Str × Nat)) (σ : St) : St := own.map (fun _ => none) ++ fv.map fun p => (σ[p.2]?).join
noncomputable def FvOk (X : Cx) (scope : Scope) : List (Str × Nat) → Prop
  | [] => True
  | p :: r => (X.N[p.2]? = some p.1 ∧ scope.names.lookup p.1 = some .free ∧ (X.env.scope.names.lookup p.1 = some .cell ∨ X.env.scope.names.lookup p.1 = some .free)) ∧ FvOk X scope r
theorem FvOk.mem {X : Cx} {scope : Scope} : ∀ {fv : List (Str × Nat)}, FvOk X scope fv → ∀ p ∈ fv, X.N[p.2]? = some p.1 ∧ scope.names.lookup p.1 = some .free ∧ (X.env.scope.names.lookup p.1 = some .cell ∨ X.env.scope.names.lookup p.1 = some .free)
  | [], _, p, hp => by cases hp
  | q :: r, h, p, hp => by
    rcases List.mem_cons.mp hp with z | hp
    · rw [z]; exact h.1
    · exact h.2.mem p hp
/-- the context of a comprehension's block -/
noncomputable def cxComp (X : Cx) (s : Shared) (H : Hp) (scope : Scope) (C : Addr) (N : List Str) (fp : List Addr) : Cx :=
  { X with N := N, s₀ := s, H₀ := H, env := compEnvC scope (clOf X.env scope.names []) C X.env, outer := X.stack, stack := X.stack, ex := fp, fn := fun x => ((clOf X.env scope.names []).lookup x).isNone, pn := [], xe := fun _ _ => False }
section
variable {X : Cx} {pins : List (Addr × Obj)} {σ : St} {H : Hp} {s : Shared}
theorem ok_comp {scope : Scope} {C : Addr} {N : List Str} {fp : List Addr} (I : Inv X pins σ H s) (hkind : scope.kind = .function) (hcell : ∀ y ∈ scope.names, y.2 ≠ .cell)
    (hfr : ∀ y ∈ scope.names, y.2 = .free → ∃ c, X.env.cells.lookup y.1 = some c) (hC : s.heap.objs.size ≤ C) (hf : ∀ b ∈ fp, FpOk X pins H b) (hfl : ∀ b ∈ fp, b < s.heap.objs.size) : (cxComp X s H scope C N fp).Ok where
  mod := I.ok.mod
  kind := hkind
  glob := I.ok.glob
  blt := I.ok.blt
  above := hC
  inj := fun x y c h1 h2 => I.ok.inj x y c (clOf_sub _ _ (fun _ _ q => by cases q) x c h1) (clOf_sub _ _ (fun _ _ q => by cases q) y c h2)
  has := fun x hx => by
    have hx' : ∃ k, (relabel scope X.env).names.lookup x = some k ∧ (k = .cell ∨ k = .free) := by
      rcases hx with z | z
      · exact ⟨_, z, .inl rfl⟩
      · exact ⟨_, z, .inr rfl⟩
    obtain ⟨k, hk, hk2⟩ := hx'
    obtain ⟨k0, hm, hk0⟩ := relabel_mem hk
    have e : k0 = .free := by
      rcases hk0 with z | ⟨z, _⟩
      · subst z
        rcases hk2 with z | z
        · exact absurd z (hcell _ hm)
        · exact z
      · exact z
    subst e
    obtain ⟨c, hc⟩ := hfr _ hm rfl
    exact ⟨c, clOf_get hm hc⟩
  cab := fun x c h1 h2 => by
    have h1' : ((clOf X.env scope.names []).lookup x).isNone = true := h1
    have h2' : (clOf X.env scope.names []).lookup x = some c := h2
    rw [h2'] at h1'
    cases h1'
  hd := I.ok.hd
  frames := I.ok.frames
  stk := .inl rfl
  exf := fun b hb => ⟨Nat.ne_of_lt (Nat.lt_of_lt_of_le (hfl b hb) hC), fun x c e => (hf b hb).2.2.2.2.1 x c (clOf_sub _ _ (fun _ _ q => by cases q) x c e)⟩
  bs := I.bs
  bsz := Nat.le_trans I.ok.bsz I.sz
  noex := fun b o e hb => by
    rcases (hf b hb).2.2.2.1 with z | z
    · exact I.ok.noex b o e z
    · exact absurd (Nat.lt_of_lt_of_le (Heap.lt_size e) (Nat.le_trans I.ok.bsz z)) (Nat.lt_irrefl _)
  exfs := fun b hb hs => by
    rcases List.mem_cons.mp (I.stkSub b hs) with z | z
    · exact (hf b hb).2.1 z
    · exact (hf b hb).2.2.1 z
  funs := I.stack
  frf := I.stkFree
theorem inv_comp {scope : Scope} {C D : Addr} {own : List Str} {fv : List (Str × Nat)} {fp : List Addr} {h1 : Heap} {t1 : Nat} {m : Str → Option Value} (I : Inv X pins σ H s) (hkind : scope.kind = .function) (hcell : ∀ y ∈ scope.names, y.2 ≠ .cell)
    (hfr : ∀ y ∈ scope.names, y.2 = .free → ∃ c, X.env.cells.lookup y.1 = some c) (hfv : FvOk X scope fv) (hD : s.heap.objs.size ≤ D) (hCD : C ≠ D) (hC : s.heap.objs.size ≤ C) (hf : ∀ b ∈ fp, FpOk X pins H b) (hfl : ∀ b ∈ fp, b < s.heap.objs.size)
    (hns : h1.Ns C m) (hk : ∀ b o, s.heap.get? b = some o → h1.get? b = some o) (hd : ∃ n, h1.get? D = some { cls := .type "list", data := .seq #[] n }) :
    Inv (cxComp X s H scope C (compN own fv) fp) [] (compSt own fv σ) (upd H D (.lst [])) { s with heap := h1, toks := t1 } := by
  have hn : H D = none := I.hok.fresh hD
  obtain ⟨n, hd⟩ := hd
  have hcl : ∀ x c, (clOf X.env scope.names []).lookup x = some c → X.env.cells.lookup x = some c := fun x c e => clOf_sub _ _ (fun _ _ q => by cases q) x c e
  have hcs : ∀ x c, X.env.cells.lookup x = some c → c < s.heap.objs.size := fun x c e => by
    obtain ⟨v, o, z, _⟩ := I.cell x c e
    exact Heap.lt_size z
  refine ⟨ok_comp I hkind hcell hfr hC hf hfl, rfl, I.bare, Un.laid hk hD hn, ⟨m, hns, fun i x v e1 e2 e3 => ?_⟩, fun x c e => ?_, ?_, fun x c e => ?_, fun p hp => absurd (show p ∈ ([] : List (Addr × Obj)) from hp) (by simp), ?_, ?_⟩
  · -- a name from around
    have e1' : (own ++ fv.map (·.1))[i]? = some x := e1
    have e2' : (own.map (fun _ => (none : Option V)) ++ fv.map fun p => (σ[p.2]?).join)[i]? = some (some v) := e2
    have hi : own.length ≤ i := by
      by_cases hi : i < own.length
      · rw [List.getElem?_append_left (by simpa using hi), List.getElem?_map] at e2'
        cases q : own[i]? with
        | none => rw [q] at e2'; cases e2'
        | some _ => rw [q] at e2'; cases e2'
      · omega
    rw [List.getElem?_append_right hi, List.getElem?_map] at e1'
    rw [List.getElem?_append_right (by simpa using hi), List.getElem?_map, List.length_map] at e2'
    cases q : fv[i - own.length]? with
    | none => rw [q] at e1'; cases e1'
    | some p =>
      rw [q] at e1' e2'
      have ex : p.1 = x := Option.some.inj e1'
      subst ex
      have ev : (σ[p.2]?).join = some v := Option.some.inj e2'
      obtain ⟨g1, g2, g3⟩ := hfv.mem p (List.mem_of_getElem? q)
      have ev2 : σ[p.2]? = some (some v) := by
        cases z : σ[p.2]? with
        | none => rw [z] at ev; cases ev
        | some y => rw [z] at ev; exact congrArg some ev
      obtain ⟨m0, _, hl⟩ := I.loc
      obtain ⟨u, r, l⟩ := hl p.2 p.1 v g1 ev2 (.inr g3)
      refine ⟨u, r, ?_⟩
      have l2 : ∃ c, X.env.cells.lookup p.1 = some c ∧ s.heap.IsCell c (some u) := by
        rcases l with ⟨k, _⟩ | ⟨_, c, e, z⟩
        · have k' : X.env.scope.names.lookup p.1 = some .local := k
          rcases g3 with z | z
          · rw [z] at k'; cases k'
          · rw [z] at k'; cases k'
        · exact ⟨c, e, z⟩
      obtain ⟨c, e, o, ho, hdc⟩ := l2
      refine .inr ⟨?_, c, clOf_get (PySem.mem_of_lookup g2) e, o, hk c o ho, hdc⟩
      exact relabel_free g2
  · obtain ⟨v, o, ho, hdc⟩ := I.cell x c (hcl x c e)
    exact ⟨v, o, hk c o ho, hdc⟩
  · show upd H D (.lst []) C = none
    rw [upd_ne hCD]
    exact I.hok.fresh hC
  · show upd H D (.lst []) c = none
    have z := hcs x c (hcl x c e)
    rw [upd_ne (Nat.ne_of_lt (Nat.lt_of_lt_of_le z hD))]
    exact I.freeC x c (hcl x c e)
  · exact I.hok.laid hk hD ⟨by show 0 ≤ sizeLine; exact Nat.zero_le _, [], n, .nil, hd⟩
  · show (own.map (fun _ => (none : Option V)) ++ fv.map fun p => (σ[p.2]?).join).length = (own ++ fv.map (·.1)).length
    simp
end
/-- the tests of a comprehension -/
noncomputable def PIfs (X : Cx) (ifs : List Expr) (t : TT) : Prop :=
  ∀ (pins : List (Addr × Obj)) (s : Shared) (σ : St) (H : Hp) (Q : Bool → Hp → Prop), Inv X pins σ H s → t σ H Q →
    wpAny (model X.prog X.w) X.A (forIn ifs true fun c r => if r = true then do let ok ← isTrue c X.env (eval c X.env); pure (ForInStep.yield ok) else pure (ForInStep.yield r)) (TP X pins σ Q) X.xe s
noncomputable def tTrue : TT := fun _ H Q => Q true H
theorem pifs_nil {X : Cx} : PIfs X [] tTrue := fun _ _ _ H _ I h => wpAny_tests_nil ⟨H, I, h⟩
theorem pifs_one {X : Cx} {c : Expr} {tc : TT} (h : PT X c tc) : PIfs X [c] tc := fun pins s σ H Q I hw => wpAny_tests_one (h pins s σ H Q I hw)
/-- the turns of a comprehension: the new list stands at D -/
noncomputable def CompR (J : It) (D : Addr) (σc : St) (g : TG) (tc : TT) (te : TE) (H1 : Hp) (Fin : Hp → Prop) : Prop :=
  ∃ W : Nat → Nat → St → Hp → Prop, (∃ m, W 0 m σc (upd H1 D (.lst []))) ∧ ∀ i m σ H, W i m σ H →
    (J.stop i H ∧ Fin H) ∨ (J.go i H ∧ ∃ N : St → Hp → Prop, (∀ σ' H', N σ' H' → ∃ m', m' < m ∧ W (i + 1) m' σ' H') ∧
      ∀ x H', J.yld i H x H' → g x σ H' fun σ2 H2 => tc σ2 H2 fun b H3 => if b = true then te σ2 H3 fun y H4 => ∃ ys, H4 D = some (.lst ys) ∧ ys.length < sizeLine ∧ N σ2 (upd H4 D (.lst (ys ++ [y]))) else N σ2 H3)
section
variable {prog : Program} {w : World} {A : Around} {s : Shared}
theorem comp_loop {elt tg iter : Expr} {ifs : List Expr} {scope : Scope} {pos : Pos} {it acc : Value} {env : Env} {R : Result → Shared → Prop} (I : Nat → Shared → Prop)
    (turn : ∀ n s, I n s → wpAny (model prog w) A (pyNext it) (fun r s1 => match r with
      | none => R (.ok .next) s1
      | some v => wpAny (model prog w) A (letOwnedTupleGo tg it v) (fun _ s2 => wpAny (model prog w) A (assign tg env v) (fun _ s3 =>
          wpAny (model prog w) A (forIn ifs true fun c r => if r = true then do let ok ← isTrue c env (eval c env); pure (ForInStep.yield ok) else pure (ForInStep.yield r)) (fun ok s4 =>
            if ok = true then wpAny (model prog w) A (eval elt env) (fun x s5 =>
              wpAny (model prog w) A (call (.builtin "list.append") [acc, x]) (fun _ s6 => ∃ m, m < n ∧ I m s6) (fun _ _ => False) s5) (fun _ _ => False) s4
            else ∃ m, m < n ∧ I m s4) (fun _ _ => False) s3) (fun _ _ => False) s2) (fun _ _ => False) s1) (fun _ _ => False) s)
    (n : Nat) (h : I n s) : codeAny (model prog w) A (.compLoop (.ListComp elt [⟨tg, iter, ifs, 0⟩] scope pos) 0 it acc env) R s := by
  refine codeAny_loop rfl I (fun n s hI => ?_) n h
  show wpAny _ A (Sem.onRaise (compTurn (.ListComp elt [⟨tg, iter, ifs, 0⟩] scope pos) 0 it acc env) (fun x => do noteFrame x env; theTreesLotGoes x)) _ _ s
  refine wpAny_noted ?_
  rw [compTurn_list]
  have no : ∀ {α : Type} {t : Sem α} {Q Q' : α → Shared → Prop} {E : Value → Shared → Prop} {s : Shared}, wpAny (model prog w) A t Q (fun _ _ => False) s → (∀ a s', Q a s' → Q' a s') → wpAny (model prog w) A t Q' E s :=
    fun h1 h2 => wpAny_mono h1 h2 fun _ _ z => False.elim z
  refine wpAny_bind (wpAny_standAt (wpAny_bind (no (turn n s hI) fun r s1 h1 => ?_)))
  cases r with
  | none => exact wpAny_pure h1
  | some v =>
    refine wpAny_bind (no h1 fun _ s2 h2 => wpAny_bind (no h2 fun _ s3 h3 => wpAny_bind (no h3 fun ok s4 h4 => ?_)))
    cases ok with
    | false => exact wpAny_pure ⟨rfl, h4⟩
    | true => exact wpAny_bind (wpAny_bind (no h4 fun x s5 h5 => wpAny_bind (no h5 fun _ s6 h6 => wpAny_pure (wpAny_pure ⟨rfl, h6⟩))))
end
section
variable {X : Cx} {pins : List (Addr × Obj)} {σ : St} {H : Hp} {s : Shared}
theorem comp_block {elt tg iter : Expr} {ifs : List Expr} {scope : Scope} {pos : Pos} {own : List Str} {fv : List (Str × Nat)} {g : TG} {tc : TT} {te : TE} {E : Value → Shared → Prop} {it : Addr} {fp : List Addr} {tn : Nat → Heap → Prop} {J : It} {Fin : Addr → Hp → Prop}
    {RR : Value → Addr → Result → Shared → Prop} (I : Inv X pins σ H s) (hc : X.calm = true) (hkind : scope.kind = .function) (hcell : ∀ y ∈ scope.names, y.2 ≠ .cell) (hfr : ∀ y ∈ scope.names, y.2 = .free → ∃ c, X.env.cells.lookup y.1 = some c) (hfv : FvOk X scope fv)
    (T : Turn X.prog X.w X.K tg J fp it tn) (st : tn 0 s.heap) (hf : ∀ b ∈ fp, FpOk X pins H b)
    (hg : ∀ C, PG (cxComp X s H scope C (compN own fv) fp) tg g) (ht : ∀ C, PIfs (cxComp X s H scope C (compN own fv) fp) ifs tc) (he : ∀ C, PE (cxComp X s H scope C (compN own fv) fp) elt te)
    (hR : ∀ D, H D = none → CompR J D (compSt own fv σ) g tc te H (Fin D))
    (hRR : ∀ D C H' s', Inv X pins σ H' s' → Fin D H' → (∃ m, s'.heap.Ns C m) → s.heap.objs.size ≤ C → H' C = none → RR (.ref D) C (.ok .next) s') :
    wpAny (model X.prog X.w) X.A (newList []) (fun acc s3 => wpAny (model X.prog X.w) X.A (newFunctionEnv scope X.env.globals (clOf X.env scope.names []) [] X.env.qual none .none (some X.env)) (fun cenv s4 =>
      codeAny (model X.prog X.w) X.A (.compStart (.ListComp elt [⟨tg, iter, ifs, 0⟩] scope pos) 0 (.ref it) acc { cenv with scope := relabel scope X.env }) (RR acc cenv.locals) s4) E s3) E s := by
  refine wpAny_newObj_type (wpAny_newFunctionEnv hcell (by intro y hy; simp at hy) (fun h1 hns hsb => ?_) hkind)
  dsimp only at hns hsb ⊢
  generalize hH2 : s.heap.push { cls := .type "list", dict := none, data := .seq ([] : List Value).toArray } = h2 at hns hsb ⊢
  have hz : h2.objs.size = s.heap.objs.size + 1 := by rw [← hH2, Heap.size_push]
  have hDC : s.heap.objs.size ≠ h2.objs.size := by rw [hz]; exact Nat.ne_of_lt (Nat.lt_succ_self _)
  have hC : s.heap.objs.size ≤ h2.objs.size := by rw [hz]; exact Nat.le_succ _
  have kp : ∀ b o, s.heap.get? b = some o → h1.get? b = some o := fun b o e => by
    have hb : b ≠ h2.objs.size := Nat.ne_of_lt (Nat.lt_of_lt_of_le (Heap.lt_size e) hC)
    exact (hsb.2 b hb).trans (Heap.get?_push_of_some _ (hH2 ▸ Heap.get?_push_of_some _ e))
  have hd : ∃ n, h1.get? s.heap.objs.size = some { cls := .type "list", data := .seq #[] n } := ⟨0, (hsb.2 _ hDC).trans (Heap.get?_push_of_some _ (hH2 ▸ Heap.get?_push_size _ rfl))⟩
  have hfl : ∀ b ∈ fp, b < s.heap.objs.size := fun b hb => by
    obtain ⟨o, e, _⟩ := T.obj 0 _ st b hb
    exact Heap.lt_size e
  have hn : H s.heap.objs.size = none := I.hok.fresh (Nat.le_refl _)
  obtain ⟨W, ⟨m0, w0⟩, turn⟩ := hR s.heap.objs.size hn
  have fpX : ∀ {pl : List (Addr × Obj)} {H' : Hp}, (∀ b ∈ fp, H' b = none) → (∀ p ∈ pl, p.1 ∉ fp) → ∀ b ∈ fp, FpOk (cxComp X s H scope h2.objs.size (compN own fv) fp) pl H' b := fun {pl H'} hn' hpl b hb => by
    have ok := ok_comp (N := compN own fv) I hkind hcell hfr hC hf hfl
    exact ⟨hn' b hb, (ok.exf b hb).1, ok.exfs b hb, .inl hb, (ok.exf b hb).2, fun p hp => by
      have hp' : p ∈ ([] : List (Addr × Obj)) ++ pl := hp
      intro z
      exact hpl p (by simpa using hp') (by rw [z]; exact hb)⟩
  have loop : ∀ s4 : Shared, s4 = { s with heap := h1, toks := s.toks + ([] : List (Str × Value)).length } →
      codeAny (model X.prog X.w) X.A (.compLoop (.ListComp elt [⟨tg, iter, ifs, 0⟩] scope pos) 0 (.ref it) (.ref s.heap.objs.size) (compEnvC scope (clOf X.env scope.names []) h2.objs.size X.env)) (RR (.ref s.heap.objs.size) h2.objs.size) s4 := by
    rintro s4 rfl
    have I0 : Inv (cxComp X s H scope h2.objs.size (compN own fv) fp) [] (compSt own fv σ) (upd H s.heap.objs.size (.lst [])) { s with heap := h1, toks := s.toks + ([] : List (Str × Value)).length } :=
      inv_comp I hkind hcell hfr hfv (Nat.le_refl _) hDC.symm hC hf hfl hns kp hd
    have st0 : tn 0 h1 := T.keep 0 _ _ st fun b _ o e => kp b o e
    have fr0 : ∀ b ∈ fp, (upd H s.heap.objs.size (.lst [])) b = none := fun b hb => by
      rw [upd_ne (Nat.ne_of_lt (hfl b hb))]
      exact (hf b hb).1
    refine comp_loop (fun n s' => ∃ i σ' H', Inv (cxComp X s H scope h2.objs.size (compN own fv) fp) [] σ' H' s' ∧ tn i s'.heap ∧ (∀ b ∈ fp, H' b = none) ∧ W i n σ' H') ?_ m0 ⟨0, _, _, I0, st0, fr0, w0⟩
    rintro n s5 ⟨i, σ5, H5, I5, st5, fr5, w5⟩
    rcases turn i n σ5 H5 w5 with ⟨stop, fin⟩ | ⟨go, N, hN, step⟩
    · refine thn (T.done (cxComp X s H scope h2.objs.size (compN own fv) fp) rfl rfl rfl hc i [] s5 σ5 H5 (fun _ _ => False) I5 (fpX fr5 (by simp)) st5 stop) fun r s6 ⟨hr, I6⟩ => ?_
      subst hr
      obtain ⟨mm, hm, _⟩ := I6.loc
      refine hRR _ _ H5 s6 ?_ fin ⟨mm, hm⟩ hC I6.free
      exact I.call' (ch := fp) I6.os I6.base I6.hok I6.bare fun b hb => ⟨(hf b hb).2.2.2.1, (hf b hb).2.1, (hf b hb).2.2.2.2.1, (hf b hb).2.2.2.2.2⟩
    · refine thn (T.item (cxComp X s H scope h2.objs.size (compN own fv) fp) rfl rfl rfl hc i [] s5 σ5 H5 (fun _ _ => False) I5 (fpX fr5 (by simp)) st5 go) fun r s6 ⟨u, hr, h6⟩ => ?_
      subst hr
      refine thn h6 fun _ s7 ⟨x, H7, I7, r7, y7, st7, fr7⟩ => ?_
      have I7' := I7.pinned (fp := fp) (fpX fr7 (by simp)) (T.obj _ _ st7)
      have back : ∀ {σ8 : St} {H8 : Hp} {s8 : Shared}, Inv (cxComp X s H scope h2.objs.size (compN own fv) fp) ([] ++ pinsAt fp s7.heap) σ8 H8 s8 → N σ8 H8 → ∃ m, m < n ∧ ∃ i σ' H', Inv (cxComp X s H scope h2.objs.size (compN own fv) fp) [] σ' H' s8 ∧ tn i s8.heap ∧ (∀ b ∈ fp, H' b = none) ∧ W i m σ' H' := fun {σ8 H8 s8} I8 n8 => by
        obtain ⟨m', hm, w8⟩ := hN σ8 H8 n8
        refine ⟨m', hm, i + 1, σ8, H8, I8.unpinned, T.keep _ _ _ st7 fun b hb o e => (I8.pin (b, o) (List.mem_append_right _ (List.mem_append_right _ (mem_pinsAt hb e)))).1, fun b hb => ?_, w8⟩
        obtain ⟨o, e, d⟩ := T.obj _ _ st7 b hb
        exact (I8.pin (b, o) (List.mem_append_right _ (List.mem_append_right _ (mem_pinsAt hb e)))).2.1
      refine thn (hg _ _ s7 σ5 H7 x u _ I7' r7 (step x H7 y7)) fun _ s8 ⟨σ8, H8, I8, q8⟩ => ?_
      refine thn (ht _ _ s8 σ8 H8 _ I8 q8) fun ok s9 ⟨H9, I9, q9⟩ => ?_
      cases ok with
      | false =>
        rw [if_neg Bool.false_ne_true] at q9 ⊢
        exact back I9 q9
      | true =>
        rw [if_pos rfl] at q9 ⊢
        refine thn (he _ _ s9 σ8 H9 _ I9 q9) fun y s10 ⟨v10, H10, I10, r10, ys, hy, hl, q10⟩ => ?_
        refine thn (mt_append _ s10 σ8 H10 (.ref s.heap.objs.size) [v10] (.ref s.heap.objs.size) [y] (fun _ H11 => N σ8 H11) I10 rfl (.cons r10 .nil) ⟨_, ys, v10, rfl, rfl, hy, hl, q10⟩) fun _ s11 ⟨v11, H11, I11, _, q11⟩ => ?_
        exact back I11 q11
  exact codeAny_compStart_list (loop _ rfl) (T.self _ 0 _ _ _ (T.keep 0 _ _ st fun b _ o e => kp b o e) (loop _ rfl))
/-- [elt for tg in iter if ..] -/
noncomputable def tComp (own : List Str) (fv : List (Str × Nat)) (wi : TI) (g : TG) (tc : TT) (te : TE) : TE := fun σ H Q => wi σ H fun J H1 => ∀ D, H1 D = none → CompR J D (compSt own fv σ) g tc te H1 fun H' => Q (.ref D) H'
theorem free_of {scope : Scope} (ok : X.Ok) (h : ∀ y ∈ scope.names, y.2 = .free → (X.env.scope.names.lookup y.1 = some .cell ∨ X.env.scope.names.lookup y.1 = some .free)) : ∀ y ∈ scope.names, y.2 = .free → ∃ c, X.env.cells.lookup y.1 = some c :=
  fun y hy e => ok.has y.1 (h y hy e)
theorem fr_of {scope sc : Scope} (h : (scope.names.all fun y => !(y.2 == NameKind.free) || (sc.names.lookup y.1 == some NameKind.cell) || (sc.names.lookup y.1 == some NameKind.free)) = true) :
    ∀ y ∈ scope.names, y.2 = .free → (sc.names.lookup y.1 = some .cell ∨ sc.names.lookup y.1 = some .free) := fun y hy e => by
  have q := List.all_eq_true.mp h y hy
  rw [e] at q
  simpa using q
theorem pe_comp {elt tg iter : Expr} {ifs : List Expr} {scope : Scope} {pos : Pos} (own : List Str) (fv : List (Str × Nat)) {wi : TI} {g : TG} {tc : TT} {te : TE} (hc : X.calm = true) (hi : PI X tg iter wi)
    (hg : ∀ s H C fp, PG (cxComp X s H scope C (compN own fv) fp) tg g) (ht : ∀ s H C fp, PIfs (cxComp X s H scope C (compN own fv) fp) ifs tc) (he : ∀ s H C fp, PE (cxComp X s H scope C (compN own fv) fp) elt te) (hfv : FvOk X scope fv)
    (hfr0 : (scope.names.all fun y => !(y.2 == NameKind.free) || (X.env.scope.names.lookup y.1 == some NameKind.cell) || (X.env.scope.names.lookup y.1 == some NameKind.free)) = true)
    (hkind : scope.kind = .function := by rfl) (hcell : ∀ y ∈ scope.names, y.2 ≠ .cell := by decide +kernel)
    (hnames : ∀ y ∈ scope.names, y.2 = .local → scope.names.lookup y.1 = some .local := by decide +kernel) (hs : ∀ x, foldedSetIterable iter X.env x = pure x := by intro _; rfl) :
    PE X (.ListComp elt [⟨tg, iter, ifs, 0⟩] scope pos) (tComp own fv wi g tc te) := by
  intro pins s σ H Q I h
  have hfr := fr_of hfr0
  rw [eval_ListComp]
  refine wpAny_comprehension_free (use := none) rfl hs (closure_of (free_of I.ok hfr)) hkind hnames (thn (hi pins s σ H _ I h) fun xv s1 h1 => thn h1 fun itv s2 h2 => ?_)
  obtain ⟨it, fp, tn, J, H2, e, I2, T, st2, f2, R⟩ := h2
  subst e
  refine comp_block I2 hc hkind hcell (free_of I.ok hfr) hfv T st2 f2 (fun C => hg _ _ C _) (fun C => ht _ _ C _) (fun C => he _ _ C _) (Fin := fun D H' => Q (.ref D) H') R ?_
  intro D C H' s' I' fin hm hC hn
  obtain ⟨m, hm⟩ := hm
  refine ⟨m, hm, fun h' hs' => ⟨.ref D, H', ?_, rfl, fin⟩⟩
  obtain ⟨f0, f1, _, f3, f4, f5⟩ := I2.fpOk hC hn
  exact I'.turned (t' := s'.toks) (fun b o hb q => (hs'.2 b hb).trans q) f0 f1 f3 f4 f5
/-- x = [elt for tg in iter if ..], x a plain local name -/
theorem ps_comp {elt tg iter : Expr} {ifs : List Expr} {scope : Scope} {pos spos py : Pos} {i : Nat} {x : Str} (own : List Str) (fv : List (Str × Nat)) {wi : TI} {g : TG} {tc : TT} {te : TE} (hN : X.N.Nodup) (hi' : X.N[i]? = some x) (hx : X.env.scope.names.lookup x = some .local)
    (hc : X.calm = true) (hi : PI X tg iter wi)
    (hg : ∀ s H C fp, PG (cxComp X s H scope C (compN own fv) fp) tg g) (ht : ∀ s H C fp, PIfs (cxComp X s H scope C (compN own fv) fp) ifs tc) (he : ∀ s H C fp, PE (cxComp X s H scope C (compN own fv) fp) elt te) (hfv : FvOk X scope fv)
    (hfr0 : (scope.names.all fun y => !(y.2 == NameKind.free) || (X.env.scope.names.lookup y.1 == some NameKind.cell) || (X.env.scope.names.lookup y.1 == some NameKind.free)) = true)
    (hsw : swapsWith (.ListComp elt [⟨tg, iter, ifs, 0⟩] scope pos) (some (.Name x py)) spos.line X.env = pure true := by rfl)
    (hkind : scope.kind = .function := by rfl) (hcell : ∀ y ∈ scope.names, y.2 ≠ .cell := by decide +kernel)
    (hnames : ∀ y ∈ scope.names, y.2 = .local → scope.names.lookup y.1 = some .local := by decide +kernel) (hs : ∀ x, foldedSetIterable iter X.env x = pure x := by intro _; rfl) :
    PS X (.Assign [.Name x py] (.ListComp elt [⟨tg, iter, ifs, 0⟩] scope pos) spos) (tAsg (tComp own fv wi g tc te) (gName i)) := by
  intro pins s σ H D I h
  have hfr := fr_of hfr0
  rw [exec_Assign_Name_used _ _ _ _ hsw]
  refine wpAny_bind (wpAny_standAt (wpAny_bind ?_))
  show wpAny _ _ (do let _ ← comprehension (.ListComp elt [⟨tg, iter, ifs, 0⟩] scope pos) scope X.env _ (newList []) false (eval iter X.env) (some (assign (.Name x py) X.env))) _ _ s
  refine wpAny_bind (thn (wpAny_comprehension_free (use := some (assign (.Name x py) X.env)) (Q := fun _ s' => SP X pins D .next s') rfl hs (closure_of (free_of I.ok hfr)) hkind hnames
    (thn (hi pins s σ H _ I h) fun xv s1 h1 => thn h1 fun itv s2 h2 => ?_)) fun _ s' q => wpAny_pure (wpAny_pure q))
  obtain ⟨it, fp, tn, J, H2, e, I2, T, st2, f2, R⟩ := h2
  subst e
  refine comp_block I2 hc hkind hcell (free_of I.ok hfr) hfv T st2 f2 (fun C => hg _ _ C _) (fun C => ht _ _ C _) (fun C => he _ _ C _) (Fin := fun L H' => D.nx (σ.set i (some (.ref L))) H') R ?_
  intro L C H' s' I' fin hm hC hn
  obtain ⟨m, hm⟩ := hm
  obtain ⟨f0, f1, f2', f3, f4, f5⟩ := I2.fpOk hC hn
  show wpAny _ _ (assign (.Name x py) X.env (.ref L)) _ _ s'
  refine wpAny_assign_Name (store_ok2 I' hN hi' (.inl hx) (v := .ref L) rfl (fun s'' I'' ⟨a, sb, ha⟩ => ?_) (.inr hx))
  have hCa : C ≠ a := by
    rcases ha with z | z
    · rw [z]; exact f1
    · exact fun q => f4 x a z q.symm
  refine ⟨m, hm.sameBut sb hCa, fun h' hs' => ⟨_, H', ?_, fin⟩⟩
  exact I''.turned (t' := s''.toks) (fun b o hb q => (hs'.2 b hb).trans q) f0 f1 f3 f4 f5
end
end L2
namespace L2
open PySem PySem.Spec PyProof.Rows

/-! ## EXTENSION 4: a def's promise in one word; readings step by step -/
/-- the def called x keeps the promise sp, k calls deep -/
noncomputable def CalOk (P : Program) (w : World) (K : PySem.W.Frag) (mg : Str → Option Value) (base : Heap) (k : Nat) (x : Str) (ps : List Str) (sp : Sp) : Prop :=
  ∃ (f : Addr) (fd : FuncData), FnOk P w K mg base CX0 k f fd ps sp ∧ Binds K fd ps [] ∧ PySem.W.keepIn K (.ref f) = true ∧ mg x = some (.ref f)
theorem pe_cal {X : Cx} {k j : Nat} {x : Str} {ps : List Str} {sp : Sp} {e : Expr} {es : List Expr} {t : TA} {p pos : Pos} (C : CalOk X.prog X.w X.K X.mg X.base k x ps sp) (hr : Room j X.A) (ha : PA X (e :: es) t) (hjk : k ≤ j := by decide) (hg : Gl X x := by rfl)
    (hdb : (x == ("__debug__" : Str)) = false := by decide) (he : starEach (e :: es) X.env = (false, eval e X.env) :: starEach es X.env := by rfl) (hpl : (backTo pos (starEach es X.env)).any (·.1) = false := by rfl) :
    PE X (.Call (.Name x p) (e :: es) [] pos) (tCall sp [] E0 t) := by
  obtain ⟨f, fd, F, b, kp, m⟩ := C
  exact pe_call F (hr.mono hjk) hg m kp b .nil pass0 ha hdb he hpl

section
variable {σ : St} {H : Hp} {Q : VK} {D : Ends}
end
section
variable {σ : St} {H : Hp} {Q : VK} {D : Ends}
end
/-- a place of a list by a number -/
theorem atI_nn {α : Type} {xs : List α} {i : Int} {v : α} (h0 : 0 ≤ i) (h : xs[i.toNat]? = some v) : atI xs i = some v := by
  have q := atI_nat h
  rwa [Int.toNat_of_nonneg h0] at q
theorem Same.tup {K : PySem.W.Frag} {H H' : Hp} {a : Addr} {xs : List V} (e : Same H H') (h : SqT K H a xs) : SqT K H' a xs := by
  rcases h with (h | ⟨o, h⟩) | h
  · exact .inl (.inl (e _ _ h))
  · exact .inl (.inr ⟨o, e _ _ h⟩)
  · exact .inr h
theorem same_upd {H : Hp} {p : Addr} (h : H p = none) (o : HO) : Same H (upd H p o) := fun b u q => by rw [upd_ne (ne_of_none q h)]; exact q
end L2
namespace L2
open PySem PySem.Spec PyProof.Rows
/-! ### a cut: what is wanted behind a statement is named once -/
theorem b_max : bootBuiltins "max" = some (.builtin "max") := by decide +kernel
theorem b_isinstance : bootBuiltins "isinstance" = some (.builtin "isinstance") := by decide +kernel
theorem b_len : bootBuiltins "len" = some (.builtin "len") := by decide +kernel
theorem b_all : bootBuiltins "all" = some (.builtin "all") := by decide +kernel
theorem b_int : bootBuiltins "int" = some (.type "int") := by decide +kernel
theorem b_bool : bootBuiltins "bool" = some (.type "bool") := by decide +kernel
theorem b_str : bootBuiltins "str" = some (.type "str") := by decide +kernel
theorem b_tuple : bootBuiltins "tuple" = some (.type "tuple") := by decide +kernel
end L2
namespace L2
open PySem PySem.Spec PyProof.Rows
/-! ## EXTENSION 5: sorted, all, any, a tuple times a number -/
section
variable {X : Cx}
end
end L2

namespace L3
open PySem L2
/-! ## THE PURE LAYER: what a def tells as a function of data; lists that are owned by one name may change -/
noncomputable abbrev D := PyData
/-- a value: data that stays; a list that one name (or nobody yet) has; the list of a name -/
inductive PV where
  | fz (d : D)
  | ow (ds : List D)
  | pl (i : Nat)
noncomputable abbrev PEnv := List (Option PV)
structure Xc where
  cls : Str
  fs : List (Str × D)
inductive Res (α : Type) where
  | ok (a : α)
  | er (x : Xc)
  | bad
namespace Res
noncomputable def bind {α β : Type} (r : Res α) (f : α → Res β) : Res β := match r with
  | .ok a => f a
  | .er x => .er x
  | .bad => .bad
noncomputable def ofO {α : Type} : Option α → Res α
  | some a => .ok a
  | none => .bad
theorem bind_ok {α β : Type} (a : α) (f : α → Res β) : (Res.ok a).bind f = f a := rfl
end Res
/-! ### what is owned -/
noncomputable abbrev Own := Addr → Prop
noncomputable def addO (O : Own) (p : Addr) : Own := fun b => O b ∨ b = p
noncomputable def subO (O : Own) (p : Addr) : Own := fun b => O b ∧ b ≠ p
noncomputable def noO : Own := fun _ => False
noncomputable def Ev (O : Own) (H : Hp) (O' : Own) (H' : Hp) : Prop := ∀ b o, H b = some o → ¬ O b → H' b = some o ∧ ¬ O' b
theorem Ev.refl {O : Own} {H : Hp} : Ev O H O H := fun _ _ h n => ⟨h, n⟩
theorem Ev.trans {O O1 O2 : Own} {H H1 H2 : Hp} (a : Ev O H O1 H1) (b : Ev O1 H1 O2 H2) : Ev O H O2 H2 := fun p o h n => let ⟨h1, n1⟩ := a p o h n; b p o h1 n1
theorem Ev.grow {O : Own} {H H' : Hp} (s : Same H H') : Ev O H O H' := fun b o h n => ⟨s b o h, n⟩
theorem Ev.add {O : Own} {H H' : Hp} {p : Addr} (s : Same H H') (hp : H p = none) : Ev O H (addO O p) H' := fun b o h n => ⟨s b o h, fun z => z.elim n fun e => by subst e; rw [h] at hp; cases hp⟩
theorem Ev.sub {O O' : Own} {H : Hp} (h : ∀ b, O' b → O b) : Ev O H O' H := fun b o e n => ⟨e, fun z => n (h b z)⟩
theorem Ev.mut {O : Own} {H : Hp} {p : Addr} (hp : O p) (u : HO) : Ev O H O (upd H p u) := fun b o h n => ⟨by rw [upd_ne (fun e => n (by rw [e]; exact hp))]; exact h, n⟩
/-- a list that is tracked, frozen, or a plain object of the module -/
noncomputable def SqLX (K : PySem.W.Frag) (H : Hp) (a : Addr) (xs : List V) : Prop := Rd H a (.lst xs) ∨ ∃ (its : List Value) (n : Nat), K.lookup a = some { cls := .type "list", data := .seq its.toArray n } ∧ xs.length ≤ sizeLine ∧ Vals xs its
theorem SqLX.sq {K : PySem.W.Frag} {H : Hp} {a : Addr} {xs : List V} (h : SqLX K H a xs) : SqL K H a xs := by
  rcases h with h | ⟨its, n, h1, h2, h3⟩
  · exact .inl h
  · exact .inr ⟨_, its.toArray, n, h1, rfl, rfl, rfl, by rw [List.size_toArray, ← h3.length]; exact h2, by simpa using h3⟩
theorem SqLX.of {K : PySem.W.Frag} {H : Hp} {a : Addr} {xs : List V} (h : H a = some (.lst xs)) : SqLX K H a xs := .inl (.inl h)
theorem SqLX.same {K : PySem.W.Frag} {H H' : Hp} {a : Addr} {xs : List V} (e : Same H H') (h : SqLX K H a xs) : SqLX K H' a xs := by
  rcases h with (h | ⟨o, h⟩) | h
  · exact .inl (.inl (e _ _ h))
  · exact .inl (.inr ⟨o, e _ _ h⟩)
  · exact .inr h
theorem same_none (H : Hp) : Same (fun _ => none) H := fun _ _ h => by cases h
noncomputable def SqLO (O : Own) (K : PySem.W.Frag) (H : Hp) (a : Addr) (xs : List V) : Prop := SqLX K H a xs ∧ (O a → SqLX K (fun _ => none) a xs)
noncomputable def SqTO (O : Own) (K : PySem.W.Frag) (H : Hp) (a : Addr) (xs : List V) : Prop := SqT K H a xs ∧ (O a → SqT K (fun _ => none) a xs)
section
variable {O O' : Own} {K : PySem.W.Frag} {H H' : Hp} {a : Addr} {xs : List V}
theorem SqLO.ev (h : SqLO O K H a xs) (e : Ev O H O' H') : SqLO O' K H' a xs := by
  obtain ⟨h, k⟩ := h
  by_cases z : O a
  · exact ⟨SqLX.same (same_none H') (k z), fun _ => k z⟩
  · rcases h with (h | ⟨o, h⟩) | h
    · obtain ⟨h1, h2⟩ := e a _ h z
      exact ⟨.inl (.inl h1), fun y => absurd y h2⟩
    · obtain ⟨h1, h2⟩ := e a _ h z
      exact ⟨.inl (.inr ⟨o, h1⟩), fun y => absurd y h2⟩
    · exact ⟨.inr h, fun _ => .inr h⟩
theorem SqTO.ev (h : SqTO O K H a xs) (e : Ev O H O' H') : SqTO O' K H' a xs := by
  obtain ⟨h, k⟩ := h
  by_cases z : O a
  · exact ⟨(same_none H').tup (k z), fun _ => k z⟩
  · rcases h with (h | ⟨o, h⟩) | h
    · obtain ⟨h1, h2⟩ := e a _ h z
      exact ⟨.inl (.inl h1), fun y => absurd y h2⟩
    · obtain ⟨h1, h2⟩ := e a _ h z
      exact ⟨.inl (.inr ⟨o, h1⟩), fun y => absurd y h2⟩
    · exact ⟨.inr h, fun _ => .inr h⟩
end
/-! ### values that stand for data -/
mutual
inductive DV (O : Own) (K : PySem.W.Frag) (H : Hp) : V → D → Prop
  | non : DV O K H .non .none
  | bl (b : Bool) : DV O K H (.bl b) (.bool b)
  | int (i : Int) : DV O K H (.int i) (.int i)
  | str (x : Str) : DV O K H (.str x) (.str x)
  | tup {a : Addr} {xs : List V} {ds : List D} : SqTO O K H a xs → DVs O K H xs ds → DV O K H (.ref a) (.tuple ds)
  | lst {a : Addr} {xs : List V} {ds : List D} : SqLO O K H a xs → DVs O K H xs ds → DV O K H (.ref a) (.list ds)
inductive DVs (O : Own) (K : PySem.W.Frag) (H : Hp) : List V → List D → Prop
  | nil : DVs O K H [] []
  | cons {v : V} {vs : List V} {d : D} {ds : List D} : DV O K H v d → DVs O K H vs ds → DVs O K H (v :: vs) (d :: ds)
end
section
variable {O O' : Own} {K : PySem.W.Frag} {H H' : Hp}
mutual
theorem DV.ev (e : Ev O H O' H') : ∀ {v : V} {d : D}, DV O K H v d → DV O' K H' v d
  | _, _, .non => .non
  | _, _, .bl b => .bl b
  | _, _, .int i => .int i
  | _, _, .str x => .str x
  | _, _, .tup h hs => .tup (h.ev e) (DVs.ev e hs)
  | _, _, .lst h hs => .lst (h.ev e) (DVs.ev e hs)
theorem DVs.ev (e : Ev O H O' H') : ∀ {vs : List V} {ds : List D}, DVs O K H vs ds → DVs O' K H' vs ds
  | _, _, .nil => .nil
  | _, _, .cons h hs => .cons (DV.ev e h) (DVs.ev e hs)
end
theorem DVs.length : ∀ {vs : List V} {ds : List D}, DVs O K H vs ds → vs.length = ds.length
  | _, _, .nil => rfl
  | _, _, .cons _ t => by rw [List.length_cons, List.length_cons, t.length]
theorem DVs.get : ∀ {vs : List V} {ds : List D} {i : Nat} {d : D}, DVs O K H vs ds → ds[i]? = some d → ∃ v, vs[i]? = some v ∧ DV O K H v d
  | _, _, _, _, .nil, e => by simp at e
  | _, _, 0, _, .cons h _, e => by simp at e; subst e; exact ⟨_, rfl, h⟩
  | _, _, i + 1, d, .cons _ t, e => by
    obtain ⟨v, h1, h2⟩ := DVs.get (i := i) (d := d) t (by simpa using e)
    exact ⟨v, by simpa using h1, h2⟩
theorem DVs.getV : ∀ {vs : List V} {ds : List D} {i : Nat} {v : V}, DVs O K H vs ds → vs[i]? = some v → ∃ d, ds[i]? = some d ∧ DV O K H v d
  | _, _, _, _, .nil, e => by simp at e
  | _, _, 0, _, .cons h _, e => by simp at e; subst e; exact ⟨_, rfl, h⟩
  | _, _, i + 1, v, .cons _ t, e => by
    obtain ⟨d, h1, h2⟩ := DVs.getV (i := i) (v := v) t (by simpa using e)
    exact ⟨d, by simpa using h1, h2⟩
theorem DVs.append : ∀ {vs ws : List V} {ds es : List D}, DVs O K H vs ds → DVs O K H ws es → DVs O K H (vs ++ ws) (ds ++ es)
  | _, _, _, _, .nil, h => h
  | _, _, _, _, .cons h t, g => .cons h (DVs.append t g)
theorem DVs.take : ∀ {vs : List V} {ds : List D} (n : Nat), DVs O K H vs ds → DVs O K H (vs.take n) (ds.take n)
  | _, _, 0, _ => .nil
  | _, _, _ + 1, .nil => .nil
  | _, _, n + 1, .cons h t => .cons h (DVs.take n t)
theorem DVs.drop : ∀ {vs : List V} {ds : List D} (n : Nat), DVs O K H vs ds → DVs O K H (vs.drop n) (ds.drop n)
  | _, _, 0, h => h
  | _, _, _ + 1, .nil => .nil
  | _, _, n + 1, .cons _ t => DVs.drop n t
theorem DVs.set {v : V} {d : D} (h : DV O K H v d) : ∀ {vs : List V} {ds : List D} (n : Nat), DVs O K H vs ds → DVs O K H (vs.set n v) (ds.set n d)
  | _, _, _, .nil => .nil
  | _, _, 0, .cons _ t => .cons h t
  | _, _, n + 1, .cons g t => .cons g (DVs.set h n t)
theorem DVs.flat {vs : List V} {ds : List D} (h : DVs O K H vs ds) : ∀ n : Nat, DVs O K H (List.replicate n vs).flatten (List.replicate n ds).flatten
  | 0 => .nil
  | n + 1 => by rw [List.replicate_succ, List.replicate_succ, List.flatten_cons, List.flatten_cons]; exact h.append (DVs.flat h n)
/-! the relation without ownership, as the layer's equality reads it -/
mutual
theorem DV.plain : ∀ {v : V} {d : D}, DV O K H v d → L2.DV K H v d
  | _, _, .non => .non
  | _, _, .bl b => .bl b
  | _, _, .int i => .int i
  | _, _, .str x => .str x
  | _, _, .tup h hs => .tup h.1 (DVs.plain hs)
  | _, _, .lst h hs => .lst h.1.sq (DVs.plain hs)
theorem DVs.plain : ∀ {vs : List V} {ds : List D}, DVs O K H vs ds → L2.DVs K H vs ds
  | _, _, .nil => .nil
  | _, _, .cons h hs => .cons (DV.plain h) (DVs.plain hs)
end
end
/-- a value that is read: the list itself may be owned -/
noncomputable def DX (O : Own) (K : PySem.W.Frag) (H : Hp) (v : V) : D → Prop
  | .list ds => ∃ a xs, v = .ref a ∧ SqLX K H a xs ∧ DVs O K H xs ds
  | d => DV O K H v d
theorem DV.x {O : Own} {K : PySem.W.Frag} {H : Hp} {v : V} {d : D} (h : DV O K H v d) : DX O K H v d := by
  cases h with
  | lst h hs => exact ⟨_, _, rfl, h.1, hs⟩
  | non => exact .non
  | bl b => exact .bl b
  | int i => exact .int i
  | str x => exact .str x
  | tup h hs => exact .tup h hs
theorem DX.plain {O : Own} {K : PySem.W.Frag} {H : Hp} {v : V} {d : D} (h : DX O K H v d) : L2.DV K H v d := by
  cases d with
  | list ds =>
    obtain ⟨a, xs, rfl, h1, h2⟩ := h
    exact .lst h1.sq h2.plain
  | none => exact DV.plain h
  | bool b => exact DV.plain h
  | int i => exact DV.plain h
  | str x => exact DV.plain h
  | tuple ds => exact DV.plain h
  | dict kvs => exact DV.plain h
/-! ### names and what they hold -/
noncomputable def SlotOk (K : PySem.W.Frag) (H0 : Hp) (O : Own) (H : Hp) (v : V) : PV → Prop
  | .fz d => DV O K H v d
  | .ow ds => ∃ a vs, v = .ref a ∧ O a ∧ H0 a = none ∧ H a = some (.lst vs) ∧ DVs O K H vs ds
  | .pl _ => False
structure Rl (K : PySem.W.Frag) (B : Own) (H0 : Hp) (O : Own) (σ : St) (H : Hp) (ρ : PEnv) : Prop where
  same : Same H0 H
  bo : ∀ a, B a → O a
  bd : ∀ a, B a → H0 a ≠ none
  od : ∀ a, H a = none → ¬ O a
  len : σ.length = ρ.length
  slot : ∀ (i : Nat) (x : PV), ρ[i]? = some (some x) → ∃ v, σ[i]? = some (some v) ∧ SlotOk K H0 O H v x
  one : ∀ (i j : Nat) (ds es : List D) (v : V), ρ[i]? = some (some (.ow ds)) → ρ[j]? = some (some (.ow es)) → σ[i]? = some (some v) → σ[j]? = some (some v) → i = j
noncomputable def PvOk (K : PySem.W.Frag) (H0 : Hp) (O : Own) (σ : St) (H : Hp) (ρ : PEnv) (v : V) : PV → Prop
  | .fz d => DV O K H v d
  | .ow ds => ∃ a vs, v = .ref a ∧ O a ∧ H0 a = none ∧ H a = some (.lst vs) ∧ DVs O K H vs ds ∧ ∀ (i : Nat) (es : List D), ρ[i]? = some (some (.ow es)) → σ[i]? ≠ some (some (.ref a))
  | .pl i => σ[i]? = some (some v)
noncomputable def Settled : PV → Prop
  | .ow _ => False
  | _ => True
noncomputable def settle : PV → PV
  | .ow ds => .fz (.list ds)
  | p => p
section
variable {K : PySem.W.Frag} {B O O' : Own} {H0 H H' : Hp} {σ : St} {ρ ρ' : PEnv} {v : V}
theorem SlotOk.grow {x : PV} (s : Same H H') (h : SlotOk K H0 O H v x) : SlotOk K H0 O H' v x := by
  cases x with
  | fz d => exact DV.ev (Ev.grow s) h
  | ow ds =>
    obtain ⟨a, vs, e, h1, h2, h3, h4⟩ := h
    exact ⟨a, vs, e, h1, h2, s _ _ h3, h4.ev (Ev.grow s)⟩
  | pl i => exact h
theorem Rl.grow (R : Rl K B H0 O σ H ρ) (s : Same H H') : Rl K B H0 O σ H' ρ :=
  ⟨R.same.trans s, R.bo, R.bd, fun a h => R.od a (s.free h), R.len, fun i x h => let ⟨v, h1, h2⟩ := R.slot i x h; ⟨v, h1, h2.grow s⟩, R.one⟩
theorem Rl.none0 (R : Rl K B H0 O σ H ρ) {p : Addr} (h : H p = none) : H0 p = none := R.same.free h
theorem Rl.add (R : Rl K B H0 O σ H ρ) {p : Addr} (s : Same H H') (hp : H p = none) (hq : H' p ≠ none) : Rl K B H0 (addO O p) σ H' ρ := by
  refine ⟨R.same.trans s, fun a h => .inl (R.bo a h), R.bd, fun a h z => z.elim (R.od a (s.free h)) fun e => hq (by rw [← e]; exact h), R.len, fun i x h => ?_, R.one⟩
  obtain ⟨v, h1, h2⟩ := R.slot i x h
  refine ⟨v, h1, ?_⟩
  cases x with
  | fz d => exact DV.ev (Ev.add s hp) h2
  | ow ds =>
    obtain ⟨a, vs, e, g1, g2, g3, g4⟩ := h2
    exact ⟨a, vs, e, .inl g1, g2, s _ _ g3, g4.ev (Ev.add s hp)⟩
  | pl i => exact h2
theorem Rl.notB (R : Rl K B H0 O σ H ρ) {a : Addr} (h : H0 a = none) : ¬ B a := fun z => R.bd a z h
/-- an owned list that no name has is let go -/
theorem Rl.sub (R : Rl K B H0 O σ H ρ) {a : Addr} (h0 : H0 a = none) (h : ∀ (i : Nat) (es : List D), ρ[i]? = some (some (.ow es)) → σ[i]? ≠ some (some (.ref a))) : Rl K B H0 (subO O a) σ H ρ := by
  refine ⟨R.same, fun b hb => ⟨R.bo b hb, fun e => R.notB h0 (e ▸ hb)⟩, R.bd, fun b hb z => R.od b hb z.1, R.len, fun i x hx => ?_, R.one⟩
  obtain ⟨v, h1, h2⟩ := R.slot i x hx
  refine ⟨v, h1, ?_⟩
  cases x with
  | fz d => exact DV.ev (Ev.sub fun b z => z.1) h2
  | ow ds =>
    obtain ⟨b, vs, e, g1, g2, g3, g4⟩ := h2
    subst e
    exact ⟨b, vs, rfl, ⟨g1, fun e => h i ds hx (by rw [h1, e])⟩, g2, g3, g4.ev (Ev.sub fun b z => z.1)⟩
  | pl i => exact h2
theorem lst_of {a : Addr} {vs : List V} {ds : List D} (h : H a = some (.lst vs)) (n : ¬ O a) (hd : DVs O K H vs ds) : DV O K H (.ref a) (.list ds) := .lst ⟨SqLX.of h, fun z => absurd z n⟩ hd
theorem settle_ok {pv : PV} (R : Rl K B H0 O σ H ρ) (h : PvOk K H0 O σ H ρ v pv) : ∃ O', Ev O H O' H ∧ Rl K B H0 O' σ H ρ ∧ PvOk K H0 O' σ H ρ v (settle pv) := by
  cases pv with
  | fz d => exact ⟨O, .refl, R, h⟩
  | pl i => exact ⟨O, .refl, R, h⟩
  | ow ds =>
    obtain ⟨a, vs, rfl, h1, h2, h3, h4, h5⟩ := h
    exact ⟨subO O a, Ev.sub fun b z => z.1, R.sub h2 h5, lst_of h3 (fun z => z.2 rfl) (h4.ev (Ev.sub fun b z => z.1))⟩
theorem settled (pv : PV) : Settled (settle pv) := by cases pv <;> trivial
theorem PvOk.keep {pv : PV} (hs : Settled pv) (e : Ev O H O' H') (h : PvOk K H0 O σ H ρ v pv) : PvOk K H0 O' σ H' ρ' v pv := by
  cases pv with
  | fz d => exact DV.ev e h
  | pl i => exact h
  | ow ds => exact hs.elim
/-- the data that a value is read as -/
noncomputable def rdS : Option (Option PV) → Option D
  | some (some (.fz d)) => some d
  | some (some (.ow ds)) => some (.list ds)
  | _ => none
noncomputable def rdD (ρ : PEnv) : PV → Option D
  | .fz d => some d
  | .ow ds => some (.list ds)
  | .pl i => rdS ρ[i]?
theorem rd_ok {pv : PV} {d : D} (R : Rl K B H0 O σ H ρ) (h : PvOk K H0 O σ H ρ v pv) (e : rdD ρ pv = some d) : DX O K H v d := by
  cases pv with
  | fz d' => cases e; exact DV.x h
  | ow ds =>
    cases e
    obtain ⟨a, vs, rfl, h1, h2, h3, h4, h5⟩ := h
    exact ⟨a, vs, rfl, SqLX.of h3, h4⟩
  | pl i =>
    have e' : rdS ρ[i]? = some d := e
    have h' : σ[i]? = some (some v) := h
    cases q : ρ[i]? with
    | none => rw [q] at e'; cases e'
    | some o =>
      cases o with
      | none => rw [q] at e'; cases e'
      | some x =>
        obtain ⟨u, g1, g2⟩ := R.slot i x q
        rw [h'] at g1
        cases g1
        rw [q] at e'
        cases x with
        | fz d' => cases e'; exact DV.x g2
        | ow ds =>
          cases e'
          obtain ⟨a, vs, rfl, k1, k2, k3, k4⟩ := g2
          exact ⟨a, vs, rfl, SqLX.of k3, k4⟩
        | pl j => exact g2.elim
/-- the data that a value becomes for good -/
noncomputable def toS (ρ : PEnv) (i : Nat) : Option (Option PV) → Option (D × PEnv)
  | some (some (.fz d)) => some (d, ρ)
  | some (some (.ow ds)) => some (.list ds, ρ.set i (some (.fz (.list ds))))
  | _ => none
noncomputable def toD (ρ : PEnv) : PV → Option (D × PEnv)
  | .fz d => some (d, ρ)
  | .ow ds => some (.list ds, ρ)
  | .pl i => toS ρ i ρ[i]?
theorem set_get {α : Type} {l : List α} {i j : Nat} {x y : α} (h : (l.set i x)[j]? = some y) : (j = i ∧ y = x) ∨ (j ≠ i ∧ l[j]? = some y) := by
  rw [List.getElem?_set] at h
  by_cases e : i = j
  · rw [if_pos e] at h
    split at h
    · cases h; exact .inl ⟨e.symm, rfl⟩
    · cases h
  · rw [if_neg e] at h; exact .inr ⟨fun z => e z.symm, h⟩
theorem to_ok {pv : PV} {d : D} (R : Rl K B H0 O σ H ρ) (h : PvOk K H0 O σ H ρ v pv) (e : toD ρ pv = some (d, ρ')) : ∃ O', Ev O H O' H ∧ Rl K B H0 O' σ H ρ' ∧ DV O' K H v d := by
  cases pv with
  | fz d' => cases e; exact ⟨O, .refl, R, h⟩
  | ow ds =>
    cases e
    obtain ⟨a, vs, rfl, h1, h2, h3, h4, h5⟩ := h
    exact ⟨subO O a, Ev.sub fun b z => z.1, R.sub h2 h5, lst_of h3 (fun z => z.2 rfl) (h4.ev (Ev.sub fun b z => z.1))⟩
  | pl i =>
    have e' : toS ρ i ρ[i]? = some (d, ρ') := e
    have h' : σ[i]? = some (some v) := h
    cases q : ρ[i]? with
    | none => rw [q] at e'; cases e'
    | some o =>
      cases o with
      | none => rw [q] at e'; cases e'
      | some x =>
        obtain ⟨u, g1, g2⟩ := R.slot i x q
        rw [h'] at g1
        cases g1
        rw [q] at e'
        cases x with
        | fz d' => cases e'; exact ⟨O, .refl, R, g2⟩
        | pl j => exact g2.elim
        | ow ds =>
          cases e'
          obtain ⟨a, vs, rfl, k1, k2, k3, k4⟩ := g2
          have es : Ev O H (subO O a) H := Ev.sub fun b z => z.1
          have dv : DV (subO O a) K H (.ref a) (.list ds) := lst_of k3 (fun z => z.2 rfl) (k4.ev es)
          refine ⟨subO O a, es, ⟨R.same, fun b hb => ⟨R.bo b hb, fun e => R.notB k2 (e ▸ hb)⟩, R.bd, fun b hb z => R.od b hb z.1, by rw [List.length_set]; exact R.len, fun j x hx => ?_, fun j k xs ys w hj hk => ?_⟩, dv⟩
          · rcases set_get hx with ⟨rfl, ee⟩ | ⟨hne, hx⟩
            · cases ee
              exact ⟨_, h', dv⟩
            · obtain ⟨u, m1, m2⟩ := R.slot j x hx
              refine ⟨u, m1, ?_⟩
              cases x with
              | fz d => exact DV.ev es m2
              | pl i => exact m2
              | ow xs =>
                obtain ⟨b, us, rfl, n1, n2, n3, n4⟩ := m2
                exact ⟨b, us, rfl, ⟨n1, fun z => hne (R.one j i xs ds (.ref a) hx q (by rw [m1, z]) h')⟩, n2, n3, n4.ev es⟩
          · rcases set_get hj with ⟨rfl, ee⟩ | ⟨_, hj⟩
            · cases ee
            · rcases set_get hk with ⟨rfl, ee⟩ | ⟨_, hk⟩
              · cases ee
              · exact R.one j k xs ys w hj hk
end
/-! ### what is wanted of a result -/
/-- an exception as data -/
noncomputable def XOk (K : PySem.W.Frag) (B : Own) (H : Hp) (c : Value) (dx : Option Addr) (x : Xc) : Prop :=
  (∃ a, c = .ref a ∧ PySem.W.nsIn K mainGlobals x.cls = some (some (.ref a))) ∧ ∃ fs, (∀ p, dx = some p → H p = some (.xd fs)) ∧ ∀ f d, x.fs.lookup f = some d → dx ≠ none ∧ ∃ v, fs.lookup f = some v ∧ DV B K H v d
noncomputable def XE (K : PySem.W.Frag) (B : Own) (H0 : Hp) (E : XK) (x : Xc) : Prop := ∀ c dx H', Same H0 H' → XOk K B H' c dx x → E c dx H'
theorem XE.from {K : PySem.W.Frag} {B O : Own} {H0 H : Hp} {E : XK} {x : Xc} (h : XE K B H0 E x) (hb : ∀ a, B a → O a) (s : Same H0 H) : XE K O H E x := fun c dx H' s' ⟨h1, fs, h2, h3⟩ =>
  h c dx H' (s.trans s') ⟨h1, fs, h2, fun f d e => let ⟨g1, v, g2, g3⟩ := h3 f d e; ⟨g1, v, g2, g3.ev (Ev.sub hb)⟩⟩
noncomputable def WR {α : Type} (K : PySem.W.Frag) (E : XK) (B : Own) (H0 : Hp) (P : α → Prop) : Res α → Prop
  | .ok a => P a
  | .er x => XE K B H0 E x
  | .bad => False
section
variable {K : PySem.W.Frag} {E : XK} {B : Own} {H0 : Hp}
theorem WR.bind {α β : Type} {P : β → Prop} {r : Res α} {k : α → Res β} (h : WR K E B H0 P (r.bind k)) : WR K E B H0 (fun a => WR K E B H0 P (k a)) r := by
  cases r <;> exact h
theorem WR.ofO {α β : Type} {P : β → Prop} {o : Option α} {k : α → Res β} (h : WR K E B H0 P ((Res.ofO o).bind k)) : ∃ a, o = some a ∧ WR K E B H0 P (k a) := by
  cases o with
  | none => exact h.elim
  | some a => exact ⟨a, rfl, h⟩
theorem WR.imp {α : Type} {P P' : α → Prop} {r : Res α} (h : WR K E B H0 P r) (g : ∀ a, P a → P' a) : WR K E B H0 P' r := by
  cases r with
  | ok a => exact g a h
  | er x => exact h
  | bad => exact h
end
noncomputable abbrev FE := PEnv → Res (PV × PEnv)
noncomputable abbrev FT := PEnv → Res (Bool × PEnv)
noncomputable abbrev FA := PEnv → Res (List PV × PEnv)
noncomputable def EO (K : PySem.W.Frag) (E : XK) (t : TE) (f : FE) : Prop :=
  ∀ (B : Own) (H0 : Hp) (O : Own) (σ : St) (H : Hp) (ρ : PEnv) (Q : VK), Rl K B H0 O σ H ρ → WR K E B H0 (fun r => ∀ O' v H', Ev O H O' H' → Rl K B H0 O' σ H' r.2 → PvOk K H0 O' σ H' r.2 v r.1 → Q v H') (f ρ) → t σ H Q
noncomputable def TTO (K : PySem.W.Frag) (E : XK) (t : TT) (f : FT) : Prop :=
  ∀ (B : Own) (H0 : Hp) (O : Own) (σ : St) (H : Hp) (ρ : PEnv) (Q : Bool → Hp → Prop), Rl K B H0 O σ H ρ → WR K E B H0 (fun r => ∀ O' H', Ev O H O' H' → Rl K B H0 O' σ H' r.2 → Q r.1 H') (f ρ) → t σ H Q
noncomputable def AO (K : PySem.W.Frag) (E : XK) (t : TA) (f : FA) : Prop :=
  ∀ (B : Own) (H0 : Hp) (O : Own) (σ : St) (H : Hp) (ρ : PEnv) (Q : List V → Hp → Prop), Rl K B H0 O σ H ρ → WR K E B H0 (fun r => ∀ O' vs H', Ev O H O' H' → Rl K B H0 O' σ H' r.2 → Paired (fun v pv => PvOk K H0 O' σ H' r.2 v pv ∧ Settled pv) vs r.1 → Q vs H') (f ρ) → t σ H Q
end L3
namespace L3
open PySem L2
/-! ### what an operation gives: data, or a new list -/
inductive RV where
  | fz (d : D)
  | ow (ds : List D)
noncomputable def RV.pv : RV → PV
  | .fz d => .fz d
  | .ow ds => .ow ds
noncomputable def Fin (O : Own) (K : PySem.W.Frag) (H : Hp) (Q : VK) : RV → Prop
  | .fz d => ∀ v H', Same H H' → DV O K H' v d → Q v H'
  | .ow ds => ∀ p vs H', Same H H' → H p = none → H' p = some (.lst vs) → DVs (addO O p) K H' vs ds → Q (.ref p) H'
noncomputable def NoneO (O : Own) (H : Hp) : Prop := ∀ a, H a = none → ¬ O a
section
variable {K : PySem.W.Frag} {E : XK} {B O O' : Own} {H0 H H' : Hp} {σ : St} {ρ ρ' : PEnv} {v : V}
theorem fin_of {Q : VK} {rv : RV} (R : Rl K B H0 O σ H ρ) (h : ∀ O' v H', Ev O H O' H' → Rl K B H0 O' σ H' ρ → PvOk K H0 O' σ H' ρ v rv.pv → Q v H') : Fin O K H Q rv := by
  cases rv with
  | fz d => exact fun v H' s dv => h O v H' (Ev.grow s) (R.grow s) dv
  | ow ds =>
    intro p vs H' s hp e dv
    refine h (addO O p) (.ref p) H' (Ev.add s hp) (R.add s hp (by rw [e]; simp)) ⟨p, vs, rfl, .inr rfl, R.none0 hp, e, dv, fun i es hi z => ?_⟩
    obtain ⟨u, h1, a, us, e2, g1, g2, g3, g4⟩ := R.slot i _ hi
    rw [z] at h1
    cases h1
    cases e2
    rw [hp] at g3
    cases g3
theorem Fin.new {Q : VK} {ds : List D} {vs : List V} (hd : DVs O K H vs ds) (h : Fin O K H Q (.ow ds)) : ∀ p, H p = none → Q (.ref p) (upd H p (.lst vs)) := fun p hp =>
  h p vs _ (same_upd hp _) hp upd_same (hd.ev (Ev.add (same_upd hp _) hp))
theorem Fin.newT {Q : VK} {ds : List D} {vs : List V} (hd : DVs O K H vs ds) (hO : NoneO O H) (h : Fin O K H Q (.fz (.tuple ds))) : ∀ p, H p = none → Q (.ref p) (upd H p (.tup vs)) := fun p hp =>
  h (.ref p) _ (same_upd hp _) (.tup ⟨SqT.of upd_same, fun z => absurd z (hO p hp)⟩ (hd.ev (Ev.grow (same_upd hp _))))
theorem Fin.at {Q : VK} {d : D} (h : Fin O K H Q (.fz d)) (hv : DV O K H v d) : Q v H := h v H (Same.refl H) hv
/-! ### expressions -/
noncomputable def pVarS (ρ : PEnv) (i : Nat) : Option (Option PV) → Res (PV × PEnv)
  | some (some (.fz d)) => .ok (.fz d, ρ)
  | some (some (.ow _)) => .ok (.pl i, ρ)
  | _ => .bad
noncomputable def pVar (i : Nat) : FE := fun ρ => pVarS ρ i ρ[i]?
theorem eo_var {i : Nat} : EO K E (tVar i) (pVar i) := by
  intro B H0 O σ H ρ Q R w
  unfold pVar at w
  cases q : ρ[i]? with
  | none => rw [q] at w; exact w.elim
  | some o =>
    cases o with
    | none => rw [q] at w; exact w.elim
    | some x =>
      rw [q] at w
      obtain ⟨v, h1, h2⟩ := R.slot i x q
      cases x with
      | fz d => exact ⟨v, h1, w O v H .refl R h2⟩
      | ow ds => exact ⟨v, h1, w O v H .refl R h1⟩
      | pl j => exact w.elim
noncomputable def pC (d : D) : FE := fun ρ => .ok (.fz d, ρ)
theorem eo_c {v : V} {d : D} (h : ∀ O H, DV O K H v d) : EO K E (tC v) (pC d) := fun B H0 O σ H ρ Q R w => w O v H .refl R (h O H)
theorem eo_int {i : Int} : EO K E (tC (.int i)) (pC (.int i)) := eo_c fun _ _ => .int i
theorem eo_bl {b : Bool} : EO K E (tC (.bl b)) (pC (.bool b)) := eo_c fun _ _ => .bl b
theorem eo_str {x : Str} : EO K E (tC (.str x)) (pC (.str x)) := eo_c fun _ _ => .str x
theorem eo_non : EO K E (tC .non) (pC .none) := eo_c fun _ _ => .non
noncomputable def OpP (K : PySem.W.Frag) (r : R2) (f : D → D → Option RV) : Prop := ∀ (O : Own) (H : Hp) (x y : V) (dx dy : D) (rv : RV) (Q : VK), NoneO O H → DX O K H x dx → DX O K H y dy → f dx dy = some rv → Fin O K H Q rv → r x y H Q
noncomputable def pOp (f : D → D → Option RV) (fa fb : FE) : FE := fun ρ => (fa ρ).bind fun a => (fb a.2).bind fun b => (Res.ofO (rdD b.2 (settle a.1))).bind fun dx => (Res.ofO (rdD b.2 b.1)).bind fun dy => (Res.ofO (f dx dy)).bind fun rv => .ok (rv.pv, b.2)
theorem eo_op {r : R2} {f : D → D → Option RV} {ta tb : TE} {fa fb : FE} (hr : OpP K r f) (ha : EO K E ta fa) (hb : EO K E tb fb) : EO K E (tOp r ta tb) (pOp f fa fb) := by
  intro B H0 O σ H ρ Q R w
  refine ha B H0 O σ H ρ _ R (w.bind.imp fun a w1 O1 x H1 e1 R1 p1 => ?_)
  obtain ⟨O2, e2, R2, p2⟩ := settle_ok R1 p1
  refine hb B H0 O2 σ H1 a.2 _ R2 (w1.bind.imp fun b w2 O3 y H3 e3 R3 p3 => ?_)
  have p2' := p2.keep (settled a.1) e3 (ρ' := b.2)
  obtain ⟨dx, qx, w2⟩ := w2.ofO
  obtain ⟨dy, qy, w2⟩ := w2.ofO
  obtain ⟨rv, qf, w2⟩ := w2.ofO
  refine hr O3 H3 x y dx dy rv Q R3.od (rd_ok R3 p2' qx) (rd_ok R3 p3 qy) qf (fin_of R3 fun O4 v H4 e4 R4 p4 => ?_)
  exact w2 O4 v H4 (e1.trans (e2.trans (e3.trans e4))) R4 p4
noncomputable def UnP (K : PySem.W.Frag) (r : V → Hp → VK → Prop) (f : D → Option RV) : Prop := ∀ (O : Own) (H : Hp) (x : V) (dx : D) (rv : RV) (Q : VK), NoneO O H → DX O K H x dx → f dx = some rv → Fin O K H Q rv → r x H Q
noncomputable def pUn (f : D → Option RV) (fa : FE) : FE := fun ρ => (fa ρ).bind fun a => (Res.ofO (rdD a.2 a.1)).bind fun dx => (Res.ofO (f dx)).bind fun rv => .ok (rv.pv, a.2)
theorem eo_un {r : V → Hp → VK → Prop} {f : D → Option RV} {ta : TE} {fa : FE} (hr : UnP K r f) (ha : EO K E ta fa) : EO K E (tUn r ta) (pUn f fa) := by
  intro B H0 O σ H ρ Q R w
  refine ha B H0 O σ H ρ _ R (w.bind.imp fun a w1 O1 x H1 e1 R1 p1 => ?_)
  obtain ⟨dx, qx, w1⟩ := w1.ofO
  obtain ⟨rv, qf, w1⟩ := w1.ofO
  exact hr O1 H1 x dx rv Q R1.od (rd_ok R1 p1 qx) qf (fin_of R1 fun O4 v H4 e4 R4 p4 => w1 O4 v H4 (e1.trans e4) R4 p4)
/-- a bool -/
noncomputable def asB : D → Option Bool
  | .bool b => some b
  | _ => none
theorem asB_ok {O : Own} {H : Hp} {x : V} {d : D} {b : Bool} (h : DX O K H x d) (e : asB d = some b) : x = .bl b := by
  cases d <;> cases e
  cases h
  rfl
noncomputable def pBool (fa : FE) : PEnv → Res (Bool × PEnv) := fun ρ => (fa ρ).bind fun a => (Res.ofO (rdD a.2 a.1)).bind fun d => (Res.ofO (asB d)).bind fun b => .ok (b, a.2)
theorem tto_test {ta : TE} {fa : FE} (ha : EO K E ta fa) : TTO K E (tTest ta) (pBool fa) := by
  intro B H0 O σ H ρ Q R w
  refine ha B H0 O σ H ρ _ R (w.bind.imp fun a w1 O1 x H1 e1 R1 p1 => ?_)
  obtain ⟨d, qd, w1⟩ := w1.ofO
  obtain ⟨b, qb, w1⟩ := w1.ofO
  exact ⟨b, asB_ok (rd_ok R1 p1 qd) qb, w1 O1 H1 e1 R1⟩
theorem tto_b {ta : TE} {fa : FE} (ha : EO K E ta fa) : TTO K E (tB ta) (pBool fa) := tto_test ha
noncomputable def qAnd (fa fb : FT) : FT := fun ρ => (fa ρ).bind fun a => if a.1 = true then fb a.2 else .ok (false, a.2)
noncomputable def qOr (fa fb : FT) : FT := fun ρ => (fa ρ).bind fun a => if a.1 = true then .ok (true, a.2) else fb a.2
noncomputable def qNot (fa : FT) : FT := fun ρ => (fa ρ).bind fun a => .ok (!a.1, a.2)
theorem TTO.next {t : TT} {f : FT} {Q : Bool → Hp → Prop} (h : TTO K E t f) {O1 : Own} {H1 : Hp} {ρ : PEnv} (R : Rl K B H0 O1 σ H1 ρ) (e1 : Ev O H O1 H1) (w : WR K E B H0 (fun r => ∀ O' H', Ev O H O' H' → Rl K B H0 O' σ H' r.2 → Q r.1 H') (f ρ)) : t σ H1 Q :=
  h B H0 O1 σ H1 ρ Q R (w.imp fun r q O' H' e' R' => q O' H' (e1.trans e') R')
theorem EO.next {t : TE} {f : FE} {Q : VK} (h : EO K E t f) {O1 : Own} {H1 : Hp} {ρ : PEnv} (R : Rl K B H0 O1 σ H1 ρ) (e1 : Ev O H O1 H1) (w : WR K E B H0 (fun r => ∀ O' v H', Ev O H O' H' → Rl K B H0 O' σ H' r.2 → PvOk K H0 O' σ H' r.2 v r.1 → Q v H') (f ρ)) : t σ H1 Q :=
  h B H0 O1 σ H1 ρ Q R (w.imp fun r q O' v H' e' R' p' => q O' v H' (e1.trans e') R' p')
theorem tto_and {t u : TT} {f g : FT} (h1 : TTO K E t f) (h2 : TTO K E u g) : TTO K E (tAnd t u) (qAnd f g) := by
  intro B H0 O σ H ρ Q R w
  refine h1 B H0 O σ H ρ _ R (w.bind.imp fun a w1 O1 H1 e1 R1 => ?_)
  obtain ⟨b, ρ1⟩ := a
  cases b with
  | true => exact h2.next R1 e1 w1
  | false => exact w1 O1 H1 e1 R1
theorem tto_or {t u : TT} {f g : FT} (h1 : TTO K E t f) (h2 : TTO K E u g) : TTO K E (tOr t u) (qOr f g) := by
  intro B H0 O σ H ρ Q R w
  refine h1 B H0 O σ H ρ _ R (w.bind.imp fun a w1 O1 H1 e1 R1 => ?_)
  obtain ⟨b, ρ1⟩ := a
  cases b with
  | true => exact w1 O1 H1 e1 R1
  | false => exact h2.next R1 e1 w1
theorem tto_not {t : TT} {f : FT} (h1 : TTO K E t f) : TTO K E (tNot t) (qNot f) := by
  intro B H0 O σ H ρ Q R w
  exact h1 B H0 O σ H ρ _ R (w.bind.imp fun a w1 O1 H1 e1 R1 => w1 O1 H1 e1 R1)
noncomputable def qTrue : FT := fun ρ => .ok (true, ρ)
theorem tto_true : TTO K E tTrue qTrue := fun B H0 O σ H ρ Q R w => w O H .refl R
/-- and, or, not as values -/
noncomputable def pAnd (fa fb : FE) : FE := fun ρ => (pBool fa ρ).bind fun a => if a.1 = true then fb a.2 else .ok (.fz (.bool false), a.2)
noncomputable def pOr (fa fb : FE) : FE := fun ρ => (pBool fa ρ).bind fun a => if a.1 = true then .ok (.fz (.bool true), a.2) else fb a.2
noncomputable def pNot (fa : FE) : FE := fun ρ => (pBool fa ρ).bind fun a => .ok (.fz (.bool (!a.1)), a.2)
theorem eo_and {ta tb : TE} {fa fb : FE} (ha : EO K E ta fa) (hb : EO K E tb fb) : EO K E (tAndV ta tb) (pAnd fa fb) := by
  intro B H0 O σ H ρ Q R w
  refine tto_test ha B H0 O σ H ρ (fun c H1 => if c = true then tb σ H1 Q else Q (.bl false) H1) R (w.bind.imp fun a w1 O1 H1 e1 R1 => ?_)
  obtain ⟨b, ρ1⟩ := a
  cases b with
  | true => exact hb.next R1 e1 w1
  | false => exact w1 O1 _ H1 e1 R1 (.bl false)
theorem eo_not {ta : TE} {fa : FE} (ha : EO K E ta fa) : EO K E (tNotV ta) (pNot fa) := by
  intro B H0 O σ H ρ Q R w
  exact tto_test ha B H0 O σ H ρ (fun c H1 => Q (.bl (!c)) H1) R (w.bind.imp fun a w1 O1 H1 e1 R1 => w1 O1 _ H1 e1 R1 (.bl _))
noncomputable def pIf (c : FT) (fa fb : FE) : FE := fun ρ => (c ρ).bind fun a => if a.1 = true then fa a.2 else fb a.2
/-- a < b < c -/
noncomputable def pChain (f g : D → D → Option RV) (fa fb fc : FE) : FE := fun ρ => (fa ρ).bind fun a => (fb a.2).bind fun b => (Res.ofO (rdD b.2 (settle a.1))).bind fun dx => (Res.ofO (rdD b.2 (settle b.1))).bind fun dy =>
  (Res.ofO (f dx dy)).bind fun rv => match rv with
    | .fz (.bool true) => (fc b.2).bind fun c => (Res.ofO (rdD c.2 (settle b.1))).bind fun dy' => (Res.ofO (rdD c.2 c.1)).bind fun dz => (Res.ofO (g dy' dz)).bind fun rv => .ok (rv.pv, c.2)
    | .fz (.bool false) => .ok (.fz (.bool false), b.2)
    | _ => .bad
theorem eo_chain {r r' : R2} {f g : D → D → Option RV} {ta tb tc : TE} {fa fb fc : FE} (hr : OpP K r f) (hr' : OpP K r' g) (ha : EO K E ta fa) (hb : EO K E tb fb) (hc : EO K E tc fc) : EO K E (tChain r r' ta tb tc) (pChain f g fa fb fc) := by
  intro B H0 O σ H ρ Q R w
  refine ha B H0 O σ H ρ _ R (w.bind.imp fun a w1 O1 x H1 e1 R1 p1 => ?_)
  obtain ⟨O2, e2, R2, p2⟩ := settle_ok R1 p1
  refine hb B H0 O2 σ H1 a.2 _ R2 (w1.bind.imp fun b w2 O3' y H3 e3' R3' p3' => ?_)
  obtain ⟨O3, e3, R3, p3⟩ := settle_ok R3' p3'
  have e3 := e3'.trans e3
  have p2' := p2.keep (settled a.1) e3 (ρ' := b.2)
  obtain ⟨dx, qx, w2⟩ := w2.ofO
  obtain ⟨dy, qy, w2⟩ := w2.ofO
  obtain ⟨rv, qf, w2⟩ := w2.ofO
  refine hr O3 H3 x y dx dy rv _ R3.od (rd_ok R3 p2' qx) (rd_ok R3 p3 qy) qf ?_
  cases rv with
  | ow ds => exact w2.elim
  | fz d =>
    intro v H' s dv
    cases dv with
    | bl k =>
      refine ⟨k, rfl, ?_⟩
      have R4 := R3.grow s
      have e4 : Ev O3 H3 O3 H' := Ev.grow s
      cases k with
      | false => exact w2 O3 _ H' (e1.trans (e2.trans (e3.trans e4))) R4 (.bl false)
      | true =>
        rw [if_pos rfl]
        refine hc B H0 O3 σ H' b.2 _ R4 (WR.imp (WR.bind w2) fun c w3 O5 z H5 e5 R5 p5 => ?_)
        obtain ⟨dy', qy', w3⟩ := w3.ofO
        obtain ⟨dz, qz, w3⟩ := w3.ofO
        obtain ⟨rv, qg, w3⟩ := w3.ofO
        refine hr' O5 H5 y z dy' dz rv Q R5.od (rd_ok R5 (p3.keep (settled b.1) (e4.trans e5)) qy') (rd_ok R5 p5 qz) qg (fin_of R5 fun O6 v H6 e6 R6 p6 => ?_)
        exact w3 O6 v H6 (e1.trans (e2.trans (e3.trans (e4.trans (e5.trans e6))))) R6 p6
    | _ => exact w2.elim
/-! ### arguments, calls, displays -/
noncomputable def aNil : FA := fun ρ => .ok ([], ρ)
noncomputable def aCons (fa : FE) (fr : FA) : FA := fun ρ => (fa ρ).bind fun a => (fr a.2).bind fun b => .ok (settle a.1 :: b.1, b.2)
theorem ao_nil : AO K E tNil aNil := fun B H0 O σ H ρ Q R w => w O [] H .refl R .nil
theorem ao_cons {ta : TE} {tr : TA} {fa : FE} {fr : FA} (ha : EO K E ta fa) (hr : AO K E tr fr) : AO K E (tCons ta tr) (aCons fa fr) := by
  intro B H0 O σ H ρ Q R w
  refine ha B H0 O σ H ρ _ R (w.bind.imp fun a w1 O1 x H1 e1 R1 p1 => ?_)
  obtain ⟨O2, e2, R2, p2⟩ := settle_ok R1 p1
  refine hr B H0 O2 σ H1 a.2 _ R2 (w1.bind.imp fun b w2 O3 ys H3 e3 R3 p3 => ?_)
  exact w2 O3 (x :: ys) H3 (e1.trans (e2.trans e3)) R3 (.cons ⟨p2.keep (settled a.1) e3, settled a.1⟩ p3)
noncomputable def rdDs (ρ : PEnv) : List PV → Option (List D)
  | [] => some []
  | p :: r => match rdD ρ p with
    | some d => (match rdDs ρ r with
      | some ds => some (d :: ds)
      | none => none)
    | none => none
theorem rds_ok (R : Rl K B H0 O σ H ρ) : ∀ {vs : List V} {ps : List PV} {ds : List D}, Paired (fun v pv => PvOk K H0 O σ H ρ v pv ∧ Settled pv) vs ps → rdDs ρ ps = some ds → Paired (DX O K H) vs ds
  | _, _, _, .nil, e => by cases e; exact .nil
  | _, _, _, .cons (l₁ := vs) (l₂ := ps) (b := p) h t, e => by
    unfold rdDs at e
    cases q : rdD ρ p with
    | none => rw [q] at e; cases e
    | some d =>
      rw [q] at e
      dsimp only at e
      cases q2 : rdDs ρ ps with
      | none => rw [q2] at e; cases e
      | some ds' =>
        rw [q2] at e
        cases e
        exact .cons (rd_ok R h.1 q) (rds_ok R t q2)
noncomputable def toDs (ρ : PEnv) : List PV → Option (List D × PEnv)
  | [] => some ([], ρ)
  | p :: r => match toD ρ p with
    | some (d, ρ1) => (match toDs ρ1 r with
      | some (ds, ρ2) => some (d :: ds, ρ2)
      | none => none)
    | none => none
theorem tos_ok : ∀ {vs : List V} {ps : List PV} {ds : List D} {O : Own} {ρ ρ' : PEnv}, Rl K B H0 O σ H ρ → Paired (fun v pv => PvOk K H0 O σ H ρ v pv ∧ Settled pv) vs ps → toDs ρ ps = some (ds, ρ') → ∃ O', Ev O H O' H ∧ Rl K B H0 O' σ H ρ' ∧ DVs O' K H vs ds
  | _, _, _, O, _, _, R, .nil, e => by cases e; exact ⟨O, .refl, R, .nil⟩
  | _, _, _, O, ρ, ρ', R, .cons (l₁ := vs) (l₂ := ps) (b := p) h t, e => by
    unfold toDs at e
    cases q : toD ρ p with
    | none => rw [q] at e; cases e
    | some r =>
      obtain ⟨d, ρ1⟩ := r
      rw [q] at e
      dsimp only at e
      cases q2 : toDs ρ1 ps with
      | none => rw [q2] at e; cases e
      | some r2 =>
        obtain ⟨ds', ρ2⟩ := r2
        rw [q2] at e
        cases e
        obtain ⟨O1, e1, R1, d1⟩ := to_ok R h.1 q
        have t1 : Paired (fun v pv => PvOk K H0 O1 σ H ρ1 v pv ∧ Settled pv) vs ps := Paired.mapP t fun v pv ⟨h1, h2⟩ => ⟨h1.keep h2 e1, h2⟩
        obtain ⟨O2, e2, R2, d2⟩ := tos_ok R1 t1 q2
        exact ⟨O2, e1.trans e2, R2, .cons (d1.ev e2) d2⟩
noncomputable abbrev FN := List D → Res RV
/-- a def's promise by a function of data -/
noncomputable def spP (K : PySem.W.Frag) (n : Nat) (F : FN) : Sp := fun vs H Q E => vs.length = n ∧ ∃ (B : Own) (ds : List D), (∀ a, B a → H a ≠ none) ∧ DVs B K H vs ds ∧ WR K E B H (Fin B K H Q) (F ds)
noncomputable def pTup (fa : FA) : FE := fun ρ => (fa ρ).bind fun a => (Res.ofO (toDs a.2 a.1)).bind fun b => if b.1.length ≤ 1000 then .ok (.fz (.tuple b.1), b.2) else .bad
noncomputable def pLst (fa : FA) : FE := fun ρ => (fa ρ).bind fun a => (Res.ofO (toDs a.2 a.1)).bind fun b => if b.1.length ≤ 1000 then .ok (.ow b.1, b.2) else .bad
theorem le1000 {n : Nat} (h : n ≤ 1000) : n ≤ sizeLine := Nat.le_trans h (by decide)
theorem eo_tup {ta : TA} {fa : FA} (ha : AO K E ta fa) : EO K E (tTup ta) (pTup fa) := by
  intro B H0 O σ H ρ Q R w
  refine ha B H0 O σ H ρ _ R (w.bind.imp fun a w1 O1 vs H1 e1 R1 p1 => ?_)
  obtain ⟨⟨ds, ρ2⟩, q, w2⟩ := w1.ofO
  obtain ⟨O2, e2, R2, dv⟩ := tos_ok R1 p1 q
  dsimp only at w2
  by_cases hn : ds.length ≤ 1000
  · rw [if_pos hn] at w2
    refine ⟨by rw [dv.length]; exact le1000 hn, Fin.newT dv R2.od (fin_of (rv := .fz (.tuple ds)) R2 fun O3 v H3 e3 R3 p3 => w2 O3 v H3 (e1.trans (e2.trans e3)) R3 p3)⟩
  · rw [if_neg hn] at w2
    exact w2.elim
theorem eo_lst {ta : TA} {fa : FA} (ha : AO K E ta fa) : EO K E (tLst ta) (pLst fa) := by
  intro B H0 O σ H ρ Q R w
  refine ha B H0 O σ H ρ _ R (w.bind.imp fun a w1 O1 vs H1 e1 R1 p1 => ?_)
  obtain ⟨⟨ds, ρ2⟩, q, w2⟩ := w1.ofO
  obtain ⟨O2, e2, R2, dv⟩ := tos_ok R1 p1 q
  dsimp only at w2
  by_cases hn : ds.length ≤ 1000
  · rw [if_pos hn] at w2
    refine ⟨by rw [dv.length]; exact le1000 hn, Fin.new dv (fin_of (rv := .ow ds) R2 fun O3 v H3 e3 R3 p3 => w2 O3 v H3 (e1.trans (e2.trans e3)) R3 p3)⟩
  · rw [if_neg hn] at w2
    exact w2.elim
/-- a built-in of values -/
noncomputable def CbP (K : PySem.W.Frag) (r : List V → Hp → VK → Prop) (f : List D → Option RV) : Prop := ∀ (O : Own) (H : Hp) (xs : List V) (ds : List D) (rv : RV) (Q : VK), NoneO O H → Paired (DX O K H) xs ds → f ds = some rv → Fin O K H Q rv → r xs H Q
noncomputable def pCB (f : List D → Option RV) (fa : FA) : FE := fun ρ => (fa ρ).bind fun a => (Res.ofO (rdDs a.2 a.1)).bind fun ds => (Res.ofO (f ds)).bind fun rv => .ok (rv.pv, a.2)
theorem eo_cb {r : List V → Hp → VK → Prop} {f : List D → Option RV} {ta : TA} {fa : FA} (hr : CbP K r f) (ha : AO K E ta fa) : EO K E (tCB r ta) (pCB f fa) := by
  intro B H0 O σ H ρ Q R w
  refine ha B H0 O σ H ρ _ R (w.bind.imp fun a w1 O1 vs H1 e1 R1 p1 => ?_)
  obtain ⟨ds, q, w2⟩ := w1.ofO
  obtain ⟨rv, qf, w2⟩ := w2.ofO
  exact hr O1 H1 vs ds rv Q R1.od (rds_ok R1 p1 q) qf (fin_of R1 fun O4 v H4 e4 R4 p4 => w2 O4 v H4 (e1.trans e4) R4 p4)
/-! ### a slice -/
noncomputable def asI : D → Option Int
  | .int i => some i
  | _ => none
theorem asI_ok {O : Own} {H : Hp} {x : V} {d : D} {i : Int} (h : DX O K H x d) (e : asI d = some i) : x = .int i := by
  cases d <;> cases e
  cases h
  rfl
noncomputable abbrev FO := PEnv → Res (Option Int × PEnv)
noncomputable def TOO (K : PySem.W.Frag) (E : XK) (t : TO) (f : FO) : Prop :=
  ∀ (B : Own) (H0 : Hp) (O : Own) (σ : St) (H : Hp) (ρ : PEnv) (Q : Option Int → Hp → Prop), Rl K B H0 O σ H ρ → WR K E B H0 (fun r => ∀ O' H', Ev O H O' H' → Rl K B H0 O' σ H' r.2 → Q r.1 H') (f ρ) → t σ H Q
noncomputable def oNone : FO := fun ρ => .ok (none, ρ)
noncomputable def oSome (fa : FE) : FO := fun ρ => (fa ρ).bind fun a => (Res.ofO (rdD a.2 a.1)).bind fun d => (Res.ofO (asI d)).bind fun i => .ok (some i, a.2)
theorem too_none : TOO K E tNoPart oNone := fun B H0 O σ H ρ Q R w => w O H .refl R
theorem too_some {ta : TE} {fa : FE} (ha : EO K E ta fa) : TOO K E (tPart ta) (oSome fa) := by
  intro B H0 O σ H ρ Q R w
  refine ha B H0 O σ H ρ _ R (w.bind.imp fun a w1 O1 x H1 e1 R1 p1 => ?_)
  obtain ⟨d, q, w2⟩ := w1.ofO
  obtain ⟨i, qi, w2⟩ := w2.ofO
  exact ⟨i, asI_ok (rd_ok R1 p1 q) qi, w2 O1 H1 e1 R1⟩
noncomputable def SlP (K : PySem.W.Frag) (r : V → Option Int → Option Int → Hp → VK → Prop) (f : D → Option Int → Option Int → Option RV) : Prop := ∀ (O : Own) (H : Hp) (x : V) (lo hi : Option Int) (dx : D) (rv : RV) (Q : VK), NoneO O H → DX O K H x dx → f dx lo hi = some rv → Fin O K H Q rv → r x lo hi H Q
noncomputable def pSl (f : D → Option Int → Option Int → Option RV) (fa : FE) (fl fh : FO) : FE := fun ρ => (fa ρ).bind fun a => (fl a.2).bind fun l => (fh l.2).bind fun h => (Res.ofO (rdD h.2 (settle a.1))).bind fun dx => (Res.ofO (f dx l.1 h.1)).bind fun rv => .ok (rv.pv, h.2)
theorem eo_sl {r : V → Option Int → Option Int → Hp → VK → Prop} {f : D → Option Int → Option Int → Option RV} {ta : TE} {tl th : TO} {fa : FE} {fl fh : FO} (hr : SlP K r f) (ha : EO K E ta fa) (hl : TOO K E tl fl) (hh : TOO K E th fh) : EO K E (tSl r ta tl th) (pSl f fa fl fh) := by
  intro B H0 O σ H ρ Q R w
  refine ha B H0 O σ H ρ _ R (w.bind.imp fun a w1 O1 x H1 e1 R1 p1 => ?_)
  obtain ⟨O2, e2, R2, p2⟩ := settle_ok R1 p1
  refine hl B H0 O2 σ H1 a.2 _ R2 (w1.bind.imp fun l w2 O3 H3 e3 R3 => ?_)
  refine hh B H0 O3 σ H3 l.2 _ R3 (w2.bind.imp fun h w3 O4 H4 e4 R4 => ?_)
  obtain ⟨dx, qx, w3⟩ := w3.ofO
  obtain ⟨rv, qf, w3⟩ := w3.ofO
  exact hr O4 H4 x l.1 h.1 dx rv Q R4.od (rd_ok R4 (p2.keep (settled a.1) (e3.trans e4)) qx) qf (fin_of R4 fun O5 v H5 e5 R5 p5 => w3 O5 v H5 (e1.trans (e2.trans (e3.trans (e4.trans e5)))) R5 p5)
end
end L3
namespace L3
open PySem L2
theorem set_hit {α : Type} {l : List α} {i : Nat} {x y : α} (h : (l.set i x)[i]? = some y) : i < l.length := by
  rw [List.getElem?_set] at h
  rw [if_pos rfl] at h
  split at h
  · assumption
  · cases h
section
variable {K : PySem.W.Frag} {E : XK} {B O O' : Own} {H0 H H' : Hp} {σ : St} {ρ ρ' : PEnv} {v : V}
/-- the list that a name has is changed -/
theorem Rl.mut {i : Nat} {ds ds' : List D} {a : Addr} {vs' : List V} (R : Rl K B H0 O σ H ρ) (hi : ρ[i]? = some (some (.ow ds))) (hv : σ[i]? = some (some (.ref a))) (hO : O a) (h0 : H0 a = none) (hd : DVs O K H vs' ds') :
    Rl K B H0 O σ (upd H a (.lst vs')) (ρ.set i (some (.ow ds'))) := by
  have ev : Ev O H O (upd H a (.lst vs')) := Ev.mut hO _
  refine ⟨fun b o e => by rw [upd_ne (ne_of_none e h0)]; exact R.same b o e, R.bo, R.bd, fun b hb => ?_, by rw [List.length_set]; exact R.len, fun j x hx => ?_, fun j k xs ys w hj hk hj2 hk2 => ?_⟩
  · by_cases e : b = a
    · rw [e, upd_same] at hb; cases hb
    · rw [upd_ne e] at hb; exact R.od b hb
  · rcases set_get hx with ⟨rfl, ee⟩ | ⟨hne, hx⟩
    · cases ee
      exact ⟨_, hv, a, vs', rfl, hO, h0, upd_same, hd.ev ev⟩
    · obtain ⟨u, m1, m2⟩ := R.slot j x hx
      refine ⟨u, m1, ?_⟩
      cases x with
      | fz d => exact DV.ev ev m2
      | pl i => exact m2
      | ow xs =>
        obtain ⟨b, us, rfl, n1, n2, n3, n4⟩ := m2
        have hba : b ≠ a := fun z => hne (R.one j i xs ds (.ref a) hx hi (by rw [m1, z]) hv)
        exact ⟨b, us, rfl, n1, n2, by rw [upd_ne hba]; exact n3, n4.ev ev⟩
  · have own : ∀ {j : Nat} {xs : List D}, (ρ.set i (some (.ow ds')))[j]? = some (some (.ow xs)) → ∃ ys, ρ[j]? = some (some (.ow ys)) := fun {j xs} h => by
      rcases set_get h with ⟨rfl, _⟩ | ⟨_, h⟩
      · exact ⟨_, hi⟩
      · exact ⟨_, h⟩
    obtain ⟨xs', hj'⟩ := own hj
    obtain ⟨ys', hk'⟩ := own hk
    exact R.one j k xs' ys' w hj' hk' hj2 hk2
theorem lt1e6 {n : Nat} (h : n < 1000000) : n < sizeLine := Nat.lt_of_lt_of_le h (by decide)
noncomputable def asOw : Option (Option PV) → Option (List D)
  | some (some (.ow ds)) => some ds
  | _ => none
theorem asOw_ok {o : Option (Option PV)} {ds : List D} (h : asOw o = some ds) : o = some (some (.ow ds)) := by
  unfold asOw at h
  split at h
  · cases h; rfl
  · cases h
/-- xs.append(e) -/
noncomputable def pApp (i : Nat) (fe : FE) : FE := fun ρ => (Res.ofO (asOw ρ[i]?)).bind fun _ => (fe ρ).bind fun a => (Res.ofO (toD a.2 a.1)).bind fun b => (Res.ofO (asOw b.2[i]?)).bind fun ds =>
  if ds.length < 1000000 then .ok (.fz .none, b.2.set i (some (.ow (ds ++ [b.1])))) else .bad
theorem eo_app {i : Nat} {te : TE} {fe : FE} (he : EO K E te fe) : EO K E (tBM K "list" rAppend (tVar i) (tCons te tNil)) (pApp i fe) := by
  intro B H0 O σ H ρ Q R w
  obtain ⟨ds0, q0, w⟩ := w.ofO
  obtain ⟨v, g1, a, vs, rfl, g2, g3, g4, g5⟩ := R.slot i _ (asOw_ok q0)
  refine ⟨_, g1, .inl ⟨rfl, _, SqL.of g4⟩, ?_⟩
  refine he B H0 O σ H ρ _ R (w.bind.imp fun b w1 O1 y H1 e1 R1 p1 => ?_)
  obtain ⟨⟨d, ρ2⟩, qd, w1⟩ := w1.ofO
  obtain ⟨O2, e2, R2, dv⟩ := to_ok R1 p1 qd
  obtain ⟨ds, qo, w1⟩ := w1.ofO
  have qo := asOw_ok qo
  obtain ⟨v', k1, a', vs', e', k2, k3, k4, k5⟩ := R2.slot i _ qo
  subst e'
  rw [g1] at k1
  cases k1
  dsimp only at w1
  by_cases hl : ds.length < 1000000
  · rw [if_pos hl] at w1
    refine ⟨a, vs', y, rfl, rfl, k4, lt1e6 (by rw [k5.length]; exact hl), ?_⟩
    exact w1 O2 .non _ (e1.trans (e2.trans (Ev.mut k2 _))) (R2.mut qo g1 k2 k3 (k5.append (.cons dv .nil))) .non
  · rw [if_neg hl] at w1
    exact w1.elim
/-- xs.pop(e) -/
noncomputable def pPop (i : Nat) (fe : FE) : FE := fun ρ => (Res.ofO (asOw ρ[i]?)).bind fun _ => (fe ρ).bind fun a => (Res.ofO (rdD a.2 a.1)).bind fun d => (Res.ofO (asI d)).bind fun n => (Res.ofO (asOw a.2[i]?)).bind fun ds =>
  if -(2 ^ 63) ≤ n ∧ n < 2 ^ 63 then (Res.ofO (seqIndex? n ds.length)).bind fun k => (Res.ofO ds[k]?).bind fun x => .ok (.fz x, a.2.set i (some (.ow (ds.eraseIdx k)))) else .bad
/-! ### targets -/
noncomputable abbrev FG := PV → PEnv → Res PEnv
noncomputable abbrev FGs := List D → PEnv → Res PEnv
noncomputable def GO (K : PySem.W.Frag) (E : XK) (g : TG) (f : FG) : Prop :=
  ∀ (B : Own) (H0 : Hp) (O : Own) (σ : St) (H : Hp) (ρ : PEnv) (v : V) (pv : PV) (Q : St → Hp → Prop), Rl K B H0 O σ H ρ → PvOk K H0 O σ H ρ v pv → WR K E B H0 (fun ρ' => ∀ O' σ' H', Ev O H O' H' → Rl K B H0 O' σ' H' ρ' → Q σ' H') (f pv ρ) → g v σ H Q
noncomputable def GsO (K : PySem.W.Frag) (E : XK) (g : TGs) (f : FGs) : Prop :=
  ∀ (B : Own) (H0 : Hp) (O : Own) (σ : St) (H : Hp) (ρ : PEnv) (vs : List V) (ds : List D) (Q : St → Hp → Prop), Rl K B H0 O σ H ρ → DVs O K H vs ds → WR K E B H0 (fun ρ' => ∀ O' σ' H', Ev O H O' H' → Rl K B H0 O' σ' H' ρ' → Q σ' H') (f ds ρ) → g vs σ H Q
theorem Rl.setF {i : Nat} {d : D} (R : Rl K B H0 O σ H ρ) (h : DV O K H v d) : Rl K B H0 O (σ.set i (some v)) H (ρ.set i (some (.fz d))) := by
  refine ⟨R.same, R.bo, R.bd, R.od, by rw [List.length_set, List.length_set]; exact R.len, fun j x hx => ?_, fun j k xs ys w hj hk hj2 hk2 => ?_⟩
  · rcases set_get hx with ⟨rfl, e⟩ | ⟨hne, hx⟩
    · cases e
      have := set_hit hx
      exact ⟨v, by rw [List.getElem?_set, if_pos rfl, if_pos (by rw [R.len]; exact this)], h⟩
    · obtain ⟨u, m1, m2⟩ := R.slot j x hx
      exact ⟨u, by rw [List.getElem?_set, if_neg (fun z => hne z.symm)]; exact m1, m2⟩
  · rcases set_get hj with ⟨rfl, ee⟩ | ⟨n1, hj⟩
    · cases ee
    · rcases set_get hk with ⟨rfl, ee⟩ | ⟨n2, hk⟩
      · cases ee
      · rw [List.getElem?_set, if_neg (fun z => n1 z.symm)] at hj2
        rw [List.getElem?_set, if_neg (fun z => n2 z.symm)] at hk2
        exact R.one j k xs ys w hj hk hj2 hk2
theorem Rl.setO {i : Nat} {ds : List D} (R : Rl K B H0 O σ H ρ) (h : PvOk K H0 O σ H ρ v (.ow ds)) : Rl K B H0 O (σ.set i (some v)) H (ρ.set i (some (.ow ds))) := by
  obtain ⟨a, vs, rfl, h1, h2, h3, h4, h5⟩ := h
  refine ⟨R.same, R.bo, R.bd, R.od, by rw [List.length_set, List.length_set]; exact R.len, fun j x hx => ?_, fun j k xs ys w hj hk hj2 hk2 => ?_⟩
  · rcases set_get hx with ⟨rfl, e⟩ | ⟨hne, hx⟩
    · cases e
      have := set_hit hx
      exact ⟨.ref a, by rw [List.getElem?_set, if_pos rfl, if_pos (by rw [R.len]; exact this)], a, vs, rfl, h1, h2, h3, h4⟩
    · obtain ⟨u, m1, m2⟩ := R.slot j x hx
      exact ⟨u, by rw [List.getElem?_set, if_neg (fun z => hne z.symm)]; exact m1, m2⟩
  · rcases set_get hj with ⟨rfl, ee⟩ | ⟨n1, hjj⟩
    · rcases set_get hk with ⟨rfl, ee2⟩ | ⟨n2, hk⟩
      · rfl
      · rw [List.getElem?_set, if_neg (fun z => n2 z.symm)] at hk2
        rcases set_get hj2 with ⟨_, e⟩ | ⟨z, _⟩
        · cases e; exact absurd hk2 (h5 k ys hk)
        · exact absurd rfl z
    · have hj' := hjj
      rw [List.getElem?_set, if_neg (fun z => n1 z.symm)] at hj2
      rcases set_get hk with ⟨rfl, ee⟩ | ⟨n2, hk⟩
      · rcases set_get hk2 with ⟨_, e⟩ | ⟨z, _⟩
        · cases e; exact absurd hj2 (h5 j xs hjj)
        · exact absurd rfl z
      · rw [List.getElem?_set, if_neg (fun z => n2 z.symm)] at hk2
        exact R.one j k xs ys w hjj hk hj2 hk2
noncomputable def gN (i : Nat) : FG := fun pv ρ => match pv with
  | .ow ds => .ok (ρ.set i (some (.ow ds)))
  | .fz d => .ok (ρ.set i (some (.fz d)))
  | .pl j => (Res.ofO (toD ρ (.pl j))).bind fun b => .ok (b.2.set i (some (.fz b.1)))
theorem go_name {i : Nat} : GO K E (gName i) (gN i) := by
  intro B H0 O σ H ρ v pv Q R p w
  cases pv with
  | ow ds => exact w O _ H .refl (R.setO p)
  | fz d => exact w O _ H .refl (R.setF p)
  | pl j =>
    obtain ⟨⟨d, ρ2⟩, q, w⟩ := WR.ofO (show WR K E B H0 _ ((Res.ofO (toD ρ (.pl j))).bind fun b => .ok (b.2.set i (some (.fz b.1)))) from w)
    obtain ⟨O2, e2, R2, dv⟩ := to_ok R p q
    exact w O2 _ H e2 (R2.setF dv)
noncomputable def gsN : FGs := fun ds ρ => match ds with
  | [] => .ok ρ
  | _ => .bad
noncomputable def gsC (f : FG) (g : FGs) : FGs := fun ds ρ => match ds with
  | [] => .bad
  | d :: r => (f (.fz d) ρ).bind fun ρ1 => g r ρ1
theorem gs_nil : GsO K E gNil gsN := by
  intro B H0 O σ H ρ vs ds Q R dv w
  cases dv with
  | nil => exact ⟨rfl, w O σ H .refl R⟩
  | cons _ _ => exact w.elim
theorem gs_cons {t : TG} {u : TGs} {f : FG} {g : FGs} (h1 : GO K E t f) (h2 : GsO K E u g) : GsO K E (gCons t u) (gsC f g) := by
  intro B H0 O σ H ρ vs ds Q R dv w
  cases dv with
  | nil => exact w.elim
  | cons hd tl =>
    rename_i v vs d ds
    refine ⟨_, _, rfl, h1 B H0 O σ H ρ _ (.fz d) _ R hd (WR.imp (WR.bind w) fun ρ1 w1 O1 σ1 H1 e1 R1 => ?_)⟩
    exact h2 B H0 O1 σ1 H1 ρ1 _ _ Q R1 (tl.ev e1) (w1.imp fun ρ2 q O2 σ2 H2 e2 R2 => q O2 σ2 H2 (e1.trans e2) R2)
noncomputable def asT : D → Option (List D)
  | .tuple ds => some ds
  | _ => none
theorem asT_ok {O : Own} {H : Hp} {x : V} {d : D} {ds : List D} (h : DX O K H x d) (e : asT d = some ds) : ∃ a xs, x = .ref a ∧ SqTO O K H a xs ∧ DVs O K H xs ds := by
  cases d <;> cases e
  cases h with
  | tup h hs => exact ⟨_, _, rfl, h, hs⟩
noncomputable def gT (n : Nat) (f : FGs) : FG := fun pv ρ => (Res.ofO (rdD ρ pv)).bind fun d => (Res.ofO (asT d)).bind fun ds => if ds.length = n then f ds ρ else .bad
theorem go_tup {n : Nat} {t : TGs} {f : FGs} (h : GsO K E t f) : GO K E (gTup K n t) (gT n f) := by
  intro B H0 O σ H ρ v pv Q R p w
  obtain ⟨d, qd, w⟩ := w.ofO
  obtain ⟨ds, qs, w⟩ := w.ofO
  obtain ⟨a, xs, rfl, hq, hx⟩ := asT_ok (rd_ok R p qd) qs
  by_cases hn : ds.length = n
  · rw [if_pos hn] at w
    exact ⟨a, xs, rfl, hq.1, hx.length.trans hn, h B H0 O σ H ρ xs ds Q R hx w⟩
  · rw [if_neg hn] at w
    exact w.elim
/-- xs[i] = .. -/
noncomputable def gIx (i : Nat) (fi : FE) : FG := fun pv ρ => (Res.ofO (toD ρ pv)).bind fun b => (Res.ofO (asOw b.2[i]?)).bind fun _ => (fi b.2).bind fun a => (Res.ofO (rdD a.2 a.1)).bind fun d => (Res.ofO (asI d)).bind fun n => (Res.ofO (asOw a.2[i]?)).bind fun ds =>
  (Res.ofO (ixN ds.length n)).bind fun k => .ok (a.2.set i (some (.ow (ds.set k b.1))))
/-! ### statements -/
inductive Fl where
  | nx (ρ : PEnv)
  | rt (rv : RV)
  | bk (ρ : PEnv)
  | ct (ρ : PEnv)
noncomputable abbrev FS := PEnv → Res Fl
noncomputable def FlOk (K : PySem.W.Frag) (B : Own) (H0 : Hp) (O : Own) (H : Hp) (D : Ends) : Fl → Prop
  | .nx ρ' => ∀ O' σ' H', Ev O H O' H' → Rl K B H0 O' σ' H' ρ' → D.nx σ' H'
  | .bk ρ' => ∀ O' σ' H', Ev O H O' H' → Rl K B H0 O' σ' H' ρ' → D.bk σ' H'
  | .ct ρ' => ∀ O' σ' H', Ev O H O' H' → Rl K B H0 O' σ' H' ρ' → D.ct σ' H'
  | .rt rv => Fin B K H0 D.rt rv
noncomputable def SO (K : PySem.W.Frag) (E : XK) (t : TS) (g : FS) : Prop :=
  ∀ (B : Own) (H0 : Hp) (O : Own) (σ : St) (H : Hp) (ρ : PEnv) (D : Ends), Rl K B H0 O σ H ρ → WR K E B H0 (FlOk K B H0 O H D) (g ρ) → t D σ H
theorem FlOk.ev {D : Ends} {fl : Fl} {O1 : Own} {H1 : Hp} (e : Ev O H O1 H1) (h : FlOk K B H0 O H D fl) : FlOk K B H0 O1 H1 D fl := by
  cases fl with
  | nx ρ' => exact fun O' σ' H' e' R' => h O' σ' H' (e.trans e') R'
  | bk ρ' => exact fun O' σ' H' e' R' => h O' σ' H' (e.trans e') R'
  | ct ρ' => exact fun O' σ' H' e' R' => h O' σ' H' (e.trans e') R'
  | rt rv => exact h
noncomputable def sNext : FS := fun ρ => .ok (.nx ρ)
noncomputable def sBreak : FS := fun ρ => .ok (.bk ρ)
noncomputable def sCont : FS := fun ρ => .ok (.ct ρ)
noncomputable def sSeq (f g : FS) : FS := fun ρ => (f ρ).bind fun fl => match fl with
  | .nx ρ1 => g ρ1
  | fl => .ok fl
noncomputable def sDrop (f : FE) : FS := fun ρ => (f ρ).bind fun a => .ok (.nx a.2)
noncomputable def sAsg (f : FE) (g : FG) : FS := fun ρ => (f ρ).bind fun a => (g a.1 a.2).bind fun ρ1 => .ok (.nx ρ1)
noncomputable def sIf (c : FT) (f g : FS) : FS := fun ρ => (c ρ).bind fun a => if a.1 = true then f a.2 else g a.2
noncomputable def retV (ρ : PEnv) : PV → Option RV
  | .fz d => some (.fz d)
  | .ow ds => some (.ow ds)
  | .pl i => match ρ[i]? with
    | some (some (.fz d)) => some (.fz d)
    | some (some (.ow ds)) => some (.ow ds)
    | _ => none
noncomputable def sRet (f : FE) : FS := fun ρ => (f ρ).bind fun a => (Res.ofO (retV a.2 a.1)).bind fun rv => .ok (.rt rv)
noncomputable def sRetN : FS := fun ρ => .ok (.rt (.fz .none))
noncomputable def sNever : FS := fun _ => .bad
theorem so_next : SO K E tNext sNext := fun B H0 O σ H ρ D R w => w O σ H .refl R
theorem so_never : SO K E tNever sNever := fun B H0 O σ H ρ D R w => w.elim
theorem so_seq {t u : TS} {f g : FS} (h1 : SO K E t f) (h2 : SO K E u g) : SO K E (tSeq t u) (sSeq f g) := by
  intro B H0 O σ H ρ D R w
  refine h1 B H0 O σ H ρ { D with nx := u D } R (WR.imp (WR.bind w) fun fl w1 => ?_)
  cases fl with
  | nx ρ1 => exact fun O1 σ1 H1 e1 R1 => h2 B H0 O1 σ1 H1 ρ1 D R1 (WR.imp w1 fun fl q => q.ev e1)
  | rt rv => exact w1
  | bk ρ1 => exact w1
  | ct ρ1 => exact w1
theorem so_drop {t : TE} {f : FE} (h : EO K E t f) : SO K E (tDrop t) (sDrop f) := by
  intro B H0 O σ H ρ D R w
  exact h B H0 O σ H ρ _ R (w.bind.imp fun a w1 O1 x H1 e1 R1 p1 => w1 O1 σ H1 e1 R1)
theorem so_asg {t : TE} {f : FE} {g : TG} {fg : FG} (h : EO K E t f) (hg : GO K E g fg) : SO K E (tAsg t g) (sAsg f fg) := by
  intro B H0 O σ H ρ D R w
  refine h B H0 O σ H ρ _ R (w.bind.imp fun a w1 O1 x H1 e1 R1 p1 => ?_)
  exact hg B H0 O1 σ H1 a.2 x a.1 _ R1 p1 (w1.bind.imp fun ρ1 w2 O2 σ2 H2 e2 R2 => w2 O2 σ2 H2 (e1.trans e2) R2)
theorem so_if {c : TT} {fc : FT} {t u : TS} {f g : FS} (hc : TTO K E c fc) (h1 : SO K E t f) (h2 : SO K E u g) : SO K E (tIfS c t u) (sIf fc f g) := by
  intro B H0 O σ H ρ D R w
  refine hc B H0 O σ H ρ _ R (w.bind.imp fun a w1 O1 H1 e1 R1 => ?_)
  obtain ⟨b, ρ1⟩ := a
  cases b with
  | true => exact h1 B H0 O1 σ H1 ρ1 D R1 (WR.imp w1 fun fl q => q.ev e1)
  | false => exact h2 B H0 O1 σ H1 ρ1 D R1 (WR.imp w1 fun fl q => q.ev e1)
theorem ret_ok {Q : VK} {pv : PV} {rv : RV} (R : Rl K B H0 O σ H ρ) (p : PvOk K H0 O σ H ρ v pv) (e : retV ρ pv = some rv) (w : Fin B K H0 Q rv) : Q v H := by
  have ow : ∀ {a : Addr} {vs : List V} {ds : List D}, O a → H0 a = none → H a = some (.lst vs) → DVs O K H vs ds → Fin B K H0 Q (.ow ds) → Q (.ref a) H := fun {a vs ds} h1 h2 h3 h4 w =>
    w a vs H R.same h2 h3 (h4.ev (Ev.sub fun b z => z.elim (R.bo b) fun e => by rw [e]; exact h1))
  have fz : ∀ {d : D}, DV O K H v d → Fin B K H0 Q (.fz d) → Q v H := fun {d} h w => w v H R.same (h.ev (Ev.sub R.bo))
  cases pv with
  | fz d => cases e; exact fz p w
  | ow ds =>
    cases e
    obtain ⟨a, vs, rfl, h1, h2, h3, h4, h5⟩ := p
    exact ow h1 h2 h3 h4 w
  | pl i =>
    have p' : σ[i]? = some (some v) := p
    unfold retV at e
    dsimp only at e
    cases q : ρ[i]? with
    | none => rw [q] at e; cases e
    | some o =>
      cases o with
      | none => rw [q] at e; cases e
      | some x =>
        obtain ⟨u, g1, g2⟩ := R.slot i x q
        rw [p'] at g1
        cases g1
        rw [q] at e
        cases x with
        | fz d => cases e; exact fz g2 w
        | ow ds =>
          cases e
          obtain ⟨a, vs, rfl, h1, h2, h3, h4⟩ := g2
          exact ow h1 h2 h3 h4 w
        | pl j => exact g2.elim
theorem so_ret {t : TE} {f : FE} (h : EO K E t f) : SO K E (tRet t) (sRet f) := by
  intro B H0 O σ H ρ D R w
  refine h B H0 O σ H ρ _ R (w.bind.imp fun a w1 O1 x H1 e1 R1 p1 => ?_)
  obtain ⟨rv, q, w1⟩ := w1.ofO
  exact ret_ok R1 p1 q w1
/-! ### loops -/
noncomputable def ItOk (K : PySem.W.Frag) (J : It) (O : Own) (H : Hp) (ds : List D) : Prop := ∀ O' H', Ev O H O' H' → NoneO O' H' →
  (∀ i, i < ds.length → J.go i H' ∧ ∀ x H'', J.yld i H' x H'' → Same H' H'' ∧ ∃ d, ds[i]? = some d ∧ DV O' K H'' x d) ∧ J.stop ds.length H'
noncomputable abbrev FI := PEnv → Res (List D × PEnv)
noncomputable def IO (K : PySem.W.Frag) (E : XK) (wi : TI) (fi : FI) : Prop :=
  ∀ (B : Own) (H0 : Hp) (O : Own) (σ : St) (H : Hp) (ρ : PEnv) (R' : It → Hp → Prop), Rl K B H0 O σ H ρ → WR K E B H0 (fun r => ∀ O' J H', Ev O H O' H' → Rl K B H0 O' σ H' r.2 → ItOk K J O' H' r.1 → R' J H') (fi ρ) → wi σ H R'
noncomputable def forP (gt : FG) (b : FS) : List D → FS
  | [], ρ => .ok (.nx ρ)
  | d :: r, ρ => (gt (.fz d) ρ).bind fun ρ1 => (b ρ1).bind fun fl => match fl with
    | .nx ρ2 => forP gt b r ρ2
    | .ct ρ2 => forP gt b r ρ2
    | .bk ρ2 => .ok (.nx ρ2)
    | .rt rv => .ok (.rt rv)
noncomputable def sFor (fi : FI) (gt : FG) (b : FS) : FS := fun ρ => (fi ρ).bind fun a => forP gt b a.1 a.2
theorem so_for {wi : TI} {fi : FI} {g : TG} {gt : FG} {tb : TS} {b : FS} (hi : IO K E wi fi) (hg : GO K E g gt) (hb : SO K E tb b) : SO K E (tFor wi g tb) (sFor fi gt b) := by
  intro B H0 O σ H ρ D R w
  refine hi B H0 O σ H ρ _ R (w.bind.imp fun a w1 O1 J H1 e1 R1 it => ?_)
  obtain ⟨ds, ρ1⟩ := a
  dsimp only at w1 it R1
  refine ⟨fun i m σ' H' => m = ds.length - i ∧ i ≤ ds.length ∧ ∃ O2 ρ2, Ev O1 H1 O2 H' ∧ Rl K B H0 O2 σ' H' ρ2 ∧ WR K E B H0 (FlOk K B H0 O H D) (forP gt b (ds.drop i) ρ2), ⟨_, rfl, Nat.zero_le _, O1, ρ1, .refl, R1, w1⟩, ?_⟩
  rintro i m σ2 H2 ⟨rfl, hi, O2, ρ2, e2, R2, w2⟩
  obtain ⟨go, stop⟩ := it O2 H2 e2 R2.od
  by_cases hlt : i < ds.length
  · obtain ⟨g1, g2⟩ := go i hlt
    refine .inr ⟨g1, fun σ' H' => i + 1 ≤ ds.length ∧ ∃ O2 ρ2, Ev O1 H1 O2 H' ∧ Rl K B H0 O2 σ' H' ρ2 ∧ WR K E B H0 (FlOk K B H0 O H D) (forP gt b (ds.drop (i + 1)) ρ2), fun σ' H' ⟨h1, h2⟩ => ⟨ds.length - (i + 1), by omega, rfl, h1, h2⟩, fun x H3 y => ?_⟩
    obtain ⟨s3, d, hd, dv⟩ := g2 x H3 y
    have ed : ds.drop i = d :: ds.drop (i + 1) := by
      obtain ⟨_, q⟩ := List.getElem?_eq_some_iff.mp hd
      rw [List.drop_eq_getElem_cons hlt, q]
    rw [ed] at w2
    have e3 : Ev O2 H2 O2 H3 := Ev.grow s3
    refine hg B H0 O2 σ2 H3 ρ2 x (.fz d) _ (R2.grow s3) dv (WR.imp (WR.bind w2) fun ρ3 w3 O4 σ4 H4 e4 R4 => ?_)
    have e4' : Ev O1 H1 O4 H4 := e2.trans (e3.trans e4)
    refine hb B H0 O4 σ4 H4 ρ3 _ R4 (WR.imp (WR.bind w3) fun fl w4 => ?_)
    cases fl with
    | nx ρ5 => exact fun O5 σ5 H5 e5 R5 => ⟨hlt, O5, ρ5, e4'.trans e5, R5, w4⟩
    | ct ρ5 => exact fun O5 σ5 H5 e5 R5 => ⟨hlt, O5, ρ5, e4'.trans e5, R5, w4⟩
    | bk ρ5 => exact fun O5 σ5 H5 e5 R5 => w4 O5 σ5 H5 (e1.trans (e4'.trans e5)) R5
    | rt rv => exact w4
  · have e : i = ds.length := by omega
    subst e
    rw [List.drop_eq_nil_of_le (Nat.le_refl _)] at w2
    exact .inl ⟨stop, w2 O2 σ2 H2 (e1.trans e2) R2⟩
/-! ### what is walked -/
noncomputable def asSeq : D → Option (List D)
  | .tuple ds => some ds
  | .list ds => some ds
  | _ => none
/-- a list or a tuple -/
noncomputable def iSeqT (K : PySem.W.Frag) (tl : TE) : TI := fun σ H R => tl σ H fun x H1 => ∃ a, x = .ref a ∧ (((∃ xs, SqL K H1 a xs) ∧ R (Itl K a) H1) ∨ ((∃ xs, SqT K H1 a xs) ∧ R (Itt K a) H1))
theorem pi_seq {X : Cx} {tg l : Expr} {tl : TE} (hl : PE X l tl) : PI X tg l (iSeqT X.K tl) := by
  intro pins s σ H R I h
  refine thn (hl pins s σ H _ I h) fun v s1 ⟨x, H1, I1, r1, q1⟩ => ?_
  obtain ⟨a, e, q⟩ := q1
  subst e
  cases r1
  rcases q with ⟨⟨xs, hq⟩, q⟩ | ⟨⟨xs, hq⟩, q⟩
  · obtain ⟨its, rv, p, hz⟩ := I1.list hq
    refine PySem.wpAny_pyIter_list p.isList ?_
    refine ⟨s1.heap.objs.size, [s1.heap.objs.size], _, _, H1, rfl, I1.kept (t' := s1.toks) fun b o e => Heap.get?_push_of_some _ e, turn_list a _, ⟨_, Heap.get?_push_size _ rfl, rfl, rfl⟩, fun b hb => ?_, q⟩
    have e : b = s1.heap.objs.size := by simpa using hb
    subst e
    exact I1.fpOk (Nat.le_refl _) (I1.hok.fresh (Nat.le_refl _))
  · obtain ⟨its, rv, p, hz⟩ := I1.tuple hq
    refine PySem.wpAny_pyIter_tuple (show s1.heap.IsTuple a its.toArray from p) ?_
    refine ⟨s1.heap.objs.size, [s1.heap.objs.size], _, _, H1, rfl, I1.kept (t' := s1.toks) fun b o e => Heap.get?_push_of_some _ e, turn_tuple a _, ⟨_, Heap.get?_push_size _ rfl, rfl, rfl⟩, fun b hb => ?_, q⟩
    have e : b = s1.heap.objs.size := by simpa using hb
    subst e
    exact I1.fpOk (Nat.le_refl _) (I1.hok.fresh (Nat.le_refl _))
theorem it_list {a : Addr} {xs : List V} {ds : List D} (h : SqLO O K H a xs) (hd : DVs O K H xs ds) : ItOk K (Itl K a) O H ds := by
  intro O' H' e n
  have h' := h.ev e
  have hd' := hd.ev e
  refine ⟨fun i hi => ?_, ⟨xs, h'.1.sq, by rw [hd.length]; exact Nat.le_refl _⟩⟩
  obtain ⟨x, hx, _⟩ := hd'.get (List.getElem?_eq_getElem hi)
  refine ⟨⟨xs, x, h'.1.sq, hx⟩, ?_⟩
  rintro y H'' ⟨rfl, hy⟩
  obtain ⟨d, q1, q2⟩ := hd'.getV (hy xs h'.1.sq)
  exact ⟨Same.refl _, d, q1, q2⟩
theorem it_tup {a : Addr} {xs : List V} {ds : List D} (h : SqTO O K H a xs) (hd : DVs O K H xs ds) : ItOk K (Itt K a) O H ds := by
  intro O' H' e n
  have h' := h.ev e
  have hd' := hd.ev e
  refine ⟨fun i hi => ?_, ⟨xs, h'.1, by rw [hd.length]; exact Nat.le_refl _⟩⟩
  obtain ⟨x, hx, _⟩ := hd'.get (List.getElem?_eq_getElem hi)
  refine ⟨⟨xs, x, h'.1, hx⟩, ?_⟩
  rintro y H'' ⟨rfl, hy⟩
  obtain ⟨d, q1, q2⟩ := hd'.getV (hy xs h'.1)
  exact ⟨Same.refl _, d, q1, q2⟩
noncomputable def iSeq (fe : FE) : FI := fun ρ => (fe ρ).bind fun a => (Res.ofO (toD a.2 a.1)).bind fun b => (Res.ofO (asSeq b.1)).bind fun ds => .ok (ds, b.2)
theorem io_seq {tl : TE} {fe : FE} (h : EO K E tl fe) : IO K E (iSeqT K tl) (iSeq fe) := by
  intro B H0 O σ H ρ R' R w
  refine h B H0 O σ H ρ _ R (w.bind.imp fun a w1 O1 x H1 e1 R1 p1 => ?_)
  obtain ⟨⟨d, ρ2⟩, q, w1⟩ := w1.ofO
  obtain ⟨O2, e2, R2, dv⟩ := to_ok R1 p1 q
  obtain ⟨ds, qs, w1⟩ := w1.ofO
  dsimp only at qs
  cases dv with
  | tup h hs => cases qs; exact ⟨_, rfl, .inr ⟨⟨_, h.1⟩, w1 O2 _ H1 (e1.trans e2) R2 (it_tup h hs)⟩⟩
  | lst h hs => cases qs; exact ⟨_, rfl, .inl ⟨⟨_, h.1.sq⟩, w1 O2 _ H1 (e1.trans e2) R2 (it_list h hs)⟩⟩
  | _ => cases qs
noncomputable def intsFrom (lo : Int) (n : Nat) : List D := (List.range n).map fun (k : Nat) => .int (lo + (k : Int))
theorem it_range {lo : Int} {n : Nat} : ItOk K (Itr lo n) O H (intsFrom lo n) := by
  intro O' H' e nn
  have hl : (intsFrom lo n).length = n := by unfold intsFrom; rw [List.length_map, List.length_range]
  refine ⟨fun i hi => ?_, by show n ≤ _; rw [hl]; exact Nat.le_refl _⟩
  rw [hl] at hi
  refine ⟨hi, ?_⟩
  rintro x H'' ⟨rfl, rfl⟩
  exact ⟨Same.refl _, .int (lo + i), by unfold intsFrom; rw [List.getElem?_map, List.getElem?_range hi]; rfl, .int _⟩
noncomputable def small62 (i : Int) : Prop := -(2 ^ 62) ≤ i ∧ i < 2 ^ 62
instance (i : Int) : Decidable (small62 i) := by unfold small62; infer_instance
noncomputable def rng1 : List D → Option (List D)
  | [.int j] => if small62 j then some (intsFrom 0 j.toNat) else none
  | _ => none
noncomputable def iRng (f : List D → Option (List D)) (fa : FA) : FI := fun ρ => (fa ρ).bind fun a => (Res.ofO (rdDs a.2 a.1)).bind fun ds => (Res.ofO (f ds)).bind fun xs => .ok (xs, a.2)
theorem io_rng1 {ta : TA} {fa : FA} (h : AO K E ta fa) : IO K E (iRng1 ta) (iRng rng1 fa) := by
  intro B H0 O σ H ρ R' R w
  refine h B H0 O σ H ρ _ R (w.bind.imp fun a w1 O1 vs H1 e1 R1 p1 => ?_)
  obtain ⟨ds, q, w1⟩ := w1.ofO
  obtain ⟨xs, qx, w1⟩ := w1.ofO
  have px := rds_ok R1 p1 q
  unfold rng1 at qx
  split at qx
  · rename_i j
    split at qx
    · rename_i hj
      cases qx
      cases px with
      | cons h1 h2 =>
        cases h2
        cases h1
        exact ⟨j, rfl, hj.1, hj.2, w1 O1 _ H1 e1 R1 it_range⟩
    · cases qx
  · cases qx
end
end L3
namespace L3
open PySem L2
section
variable {K : PySem.W.Frag} {E : XK} {B O O' : Own} {H0 H H' : Hp} {σ : St} {ρ ρ' : PEnv} {v : V}
/-! ### comprehensions -/
/-- what stays between two turns -/
noncomputable def keepF : Option PV → Option PV
  | some (.fz d) => some (.fz d)
  | _ => none
noncomputable def forget (ρ : PEnv) : PEnv := ρ.map keepF
theorem forget_get {i : Nat} {x : PV} (h : (forget ρ)[i]? = some (some x)) : ∃ d, x = .fz d ∧ ρ[i]? = some (some (.fz d)) := by
  unfold forget at h
  rw [List.getElem?_map] at h
  cases q : ρ[i]? with
  | none => rw [q] at h; cases h
  | some o =>
    rw [q] at h
    have h' : keepF o = some x := Option.some.inj h
    unfold keepF at h'
    split at h'
    · cases h'; exact ⟨_, rfl, rfl⟩
    · cases h'
/-- the values that are caught, in their order -/
noncomputable def captL (ρ : PEnv) : List Nat → Option (List D × PEnv)
  | [] => some ([], ρ)
  | j :: r => match toD ρ (.pl j) with
    | some (d, ρ1) => (match captL ρ1 r with
      | some (c, ρ2) => some (d :: c, ρ2)
      | none => none)
    | none => none
theorem slot_some {i : Nat} {d : D} {ρ' : PEnv} (R : Rl K B H0 O σ H ρ) (h : toD ρ (.pl i) = some (d, ρ')) : ∃ v, σ[i]? = some (some v) := by
  have e' : toS ρ i ρ[i]? = some (d, ρ') := h
  cases q : ρ[i]? with
  | none => rw [q] at e'; cases e'
  | some o =>
    cases o with
    | none => rw [q] at e'; cases e'
    | some x => obtain ⟨v, g1, _⟩ := R.slot i x q; exact ⟨v, g1⟩
theorem captL_ok : ∀ {fv : List Nat} {ds : List D} {O : Own} {ρ ρ' : PEnv}, Rl K B H0 O σ H ρ → captL ρ fv = some (ds, ρ') → ∃ O' vs, Ev O H O' H ∧ Rl K B H0 O' σ H ρ' ∧ DVs O' K H vs ds ∧ fv.map (fun j => (σ[j]?).join) = vs.map some
  | [], _, O, _, _, R, e => by cases e; exact ⟨O, [], .refl, R, .nil, rfl⟩
  | j :: r, _, O, ρ, ρ', R, e => by
    unfold captL at e
    cases q : toD ρ (.pl j) with
    | none => rw [q] at e; cases e
    | some p =>
      obtain ⟨d, ρ1⟩ := p
      rw [q] at e
      dsimp only at e
      cases q2 : captL ρ1 r with
      | none => rw [q2] at e; cases e
      | some p2 =>
        obtain ⟨c, ρ2⟩ := p2
        rw [q2] at e
        cases e
        obtain ⟨v, hv⟩ := slot_some R q
        obtain ⟨O1, e1, R1, d1⟩ := to_ok (v := v) (pv := .pl j) R hv q
        obtain ⟨O2, vs, e2, R2, d2, h2⟩ := captL_ok R1 q2
        exact ⟨O2, v :: vs, e1.trans e2, R2, .cons (d1.ev e2) d2, by rw [List.map_cons, List.map_cons, h2, hv]; rfl⟩
noncomputable def compP (gt : FG) (ft : FT) (fe : FE) : List D → PEnv → List D → Res (List D)
  | [], _, acc => .ok acc
  | d :: r, ρ, acc => (gt (.fz d) ρ).bind fun ρ1 => (ft ρ1).bind fun b => if b.1 = true then (fe b.2).bind fun a => (Res.ofO (toD a.2 a.1)).bind fun x =>
      if acc.length < 1000000 then compP gt ft fe r (forget x.2) (acc ++ [x.1]) else .bad
    else compP gt ft fe r (forget b.2) acc
noncomputable def noEr {α : Type} : Res α → Res α
  | .er _ => .bad
  | r => r
noncomputable def pComp (n : Nat) (fv : List Nat) (fi : FI) (gt : FG) (ft : FT) (fe : FE) : FE := fun ρ => (fi ρ).bind fun a => (Res.ofO (captL a.2 fv)).bind fun c =>
  (noEr (compP gt ft fe a.1 (List.replicate n none ++ c.1.map fun d => some (.fz d)) [])).bind fun xs => .ok (.ow xs, c.2)
theorem own_map {n : Nat} {own : List Str} (h : own.length = n) : own.map (fun _ => (none : Option V)) = List.replicate n none := by
  subst h
  induction own with
  | nil => rfl
  | cons x r ih => rw [List.map_cons, ih, List.length_cons, List.replicate_succ]
theorem noEr_ok {α : Type} {r : Res α} {P : α → Prop} (h : WR K E B H0 P (noEr r)) : ∃ a, r = .ok a ∧ P a := by
  cases r with
  | ok a => exact ⟨a, rfl, h⟩
  | er x => exact h.elim
  | bad => exact h.elim
/-- an iterator that is walked while all that stands stays as it is -/
noncomputable def ItOkS (K : PySem.W.Frag) (J : It) (O : Own) (H : Hp) (ds : List D) : Prop := ∀ O' H', Ev O H O' H' → Same H H' → NoneO O' H' →
  (∀ i, i < ds.length → J.go i H' ∧ ∀ x H'', J.yld i H' x H'' → Same H' H'' ∧ ∃ d, ds[i]? = some d ∧ DV O' K H'' x d) ∧ J.stop ds.length H'
noncomputable def IOS (K : PySem.W.Frag) (E : XK) (wi : TI) (fi : FI) : Prop :=
  ∀ (B : Own) (H0 : Hp) (O : Own) (σ : St) (H : Hp) (ρ : PEnv) (R' : It → Hp → Prop), Rl K B H0 O σ H ρ → WR K E B H0 (fun r => ∀ O' J H', Ev O H O' H' → Rl K B H0 O' σ H' r.2 → ItOkS K J O' H' r.1 → R' J H') (fi ρ) → wi σ H R'
theorem IO.s {wi : TI} {fi : FI} (h : IO K E wi fi) : IOS K E wi fi := fun B H0 O σ H ρ R' R w => h B H0 O σ H ρ R' R (w.imp fun r q O' J H' e R it => q O' J H' e R fun O2 H2 e2 _ n => it O2 H2 e2 n)
theorem eo_compS {own : List Str} {fv : List (Str × Nat)} {wi : TI} {g : TG} {tc : TT} {te : TE} {fi : FI} {gt : FG} {ft : FT} {fe : FE} {n : Nat} {fj : List Nat} (hn : own.length = n) (hf : fv.map (·.2) = fj)
    (hi : IOS K E wi fi) (hg : GO K E0 g gt) (ht : TTO K E0 tc ft) (he : EO K E0 te fe) : EO K E (tComp own fv wi g tc te) (pComp n fj fi gt ft fe) := by
  intro B H0 O σ H ρ Q R w
  refine hi B H0 O σ H ρ _ R (w.bind.imp fun a w1 O1 J H1 e1 R1 it => ?_)
  obtain ⟨ds, ρ1⟩ := a
  obtain ⟨⟨cs, ρ2⟩, qc, w1⟩ := w1.ofO
  dsimp only at qc it
  obtain ⟨O2, vs, e2, R2, dvs, hvs⟩ := captL_ok R1 qc
  obtain ⟨xs, qx, w1⟩ := noEr_ok (WR.bind w1)
  intro Dd hDd
  -- the heap with the new list; it is owned
  have hB : ∀ {H' : Hp}, Same H1 H' → H' Dd ≠ none → ∀ a, addO O2 Dd a → H' a ≠ none := fun {H'} s nd a h z => h.elim (fun q => R2.od a (s.free z) q) fun e => nd (by rw [← e]; exact z)
  refine ⟨fun i m σ' H' => m = ds.length - i ∧ i ≤ ds.length ∧ ∃ (acc : List D) (ys : List V) (ρc : PEnv), Same H1 H' ∧ H' Dd = some (.lst ys) ∧ DVs (addO O2 Dd) K H' ys acc ∧ σ'.length = ρc.length ∧ (∀ (j : Nat) (x : PV), ρc[j]? = some (some x) → ∃ d u, x = PV.fz d ∧ σ'[j]? = some (some u) ∧ DV (addO O2 Dd) K H' u d) ∧ compP gt ft fe (ds.drop i) ρc acc = .ok xs,
    ⟨_, rfl, Nat.zero_le _, [], [], _, same_upd hDd _, upd_same, .nil, ?_, fun j x hx => ?_, qx⟩, ?_⟩
  · unfold compSt
    rw [List.length_append, List.length_append, List.length_map, List.length_map, List.length_replicate, List.length_map, hn, ← dvs.length]
    have := congrArg List.length hvs
    rw [List.length_map, List.length_map, ← hf, List.length_map] at this
    omega
  · have hm : fv.map (fun p => (σ[p.2]?).join) = vs.map some := by rw [← hvs, ← hf, List.map_map]; rfl
    unfold compSt
    rw [own_map hn, hm]
    by_cases hj : j < n
    · rw [List.getElem?_append_left (by rw [List.length_replicate]; exact hj), List.getElem?_replicate, if_pos hj] at hx
      cases hx
    · rw [List.getElem?_append_right (by rw [List.length_replicate]; omega), List.length_replicate, List.getElem?_map] at hx ⊢
      cases qd : cs[j - n]? with
      | none => rw [qd] at hx; cases hx
      | some d =>
        rw [qd] at hx
        cases hx
        obtain ⟨u, hu, du⟩ := dvs.get qd
        exact ⟨d, u, rfl, by rw [hu]; rfl, du.ev (Ev.add (same_upd hDd _) hDd)⟩
  · rintro i m σ' H' ⟨rfl, hi, acc, ys, ρc, s, hD, dys, hl, hsl, qP⟩
    have nD : H' Dd ≠ none := by rw [hD]; simp
    have no' : NoneO (addO O2 Dd) H' := fun a z h => hB s nD a h z
    have ev1 : Ev O1 H1 (addO O2 Dd) H' := e2.trans (Ev.add s hDd)
    obtain ⟨go, stop⟩ := it (addO O2 Dd) H' ev1 s no'
    by_cases hlt : i < ds.length
    · obtain ⟨g1, g2⟩ := go i hlt
      refine .inr ⟨g1, fun σ5 H5 => i + 1 ≤ ds.length ∧ ∃ (acc : List D) (ys : List V) (ρc : PEnv), Same H1 H5 ∧ H5 Dd = some (.lst ys) ∧ DVs (addO O2 Dd) K H5 ys acc ∧ σ5.length = ρc.length ∧ (∀ (j : Nat) (x : PV), ρc[j]? = some (some x) → ∃ d u, x = PV.fz d ∧ σ5[j]? = some (some u) ∧ DV (addO O2 Dd) K H5 u d) ∧ compP gt ft fe (ds.drop (i + 1)) ρc acc = .ok xs,
        fun σ5 H5 ⟨h1, h2⟩ => ⟨ds.length - (i + 1), by omega, rfl, h1, h2⟩, fun x H3 y => ?_⟩
      obtain ⟨s3, d, hd, dv⟩ := g2 x H3 y
      have ed : ds.drop i = d :: ds.drop (i + 1) := by
        obtain ⟨_, q⟩ := List.getElem?_eq_some_iff.mp hd
        rw [List.drop_eq_getElem_cons hlt, q]
      rw [ed] at qP
      have hD3 : H3 Dd = some (.lst ys) := s3 _ _ hD
      have nD3 : H3 Dd ≠ none := by rw [hD3]; simp
      have sv : Same H1 H3 := s.trans s3
      -- the block's own state
      have RC : Rl K (addO O2 Dd) H3 (addO O2 Dd) σ' H3 ρc := ⟨Same.refl _, fun _ h => h, hB sv nD3, fun a z h => hB sv nD3 a h z, hl, fun j x hx => by
          obtain ⟨d, u, rfl, h1, h2⟩ := hsl j x hx
          exact ⟨u, h1, h2.ev (Ev.grow s3)⟩, fun j k xs ys w hj => by obtain ⟨d, u, e, _⟩ := hsl j _ hj; cases e⟩
      unfold compP at qP
      have back : ∀ {O5 : Own} {σ5 : St} {H5 : Hp} {ρ5 : PEnv} {H6 : Hp}, Rl K (addO O2 Dd) H3 O5 σ5 H5 ρ5 → (∀ b o, b ≠ Dd → H5 b = some o → H6 b = some o) → σ5.length = (forget ρ5).length ∧ ∀ (j : Nat) (x : PV), (forget ρ5)[j]? = some (some x) → ∃ d u, x = PV.fz d ∧ σ5[j]? = some (some u) ∧ DV (addO O2 Dd) K H6 u d := fun {O5 σ5 H5 ρ5 H6} R5 k => by
        refine ⟨by unfold forget; rw [List.length_map]; exact R5.len, fun j x hx => ?_⟩
        obtain ⟨d, rfl, hxx⟩ := forget_get hx
        obtain ⟨u, h1, h2⟩ := R5.slot j _ hxx
        refine ⟨d, u, rfl, h1, DV.ev (O := addO O2 Dd) (H := H5) (fun b o h n => ⟨k b o (fun e => n (.inr e)) h, n⟩) (DV.ev (Ev.sub R5.bo) h2)⟩
      refine hg _ _ _ σ' H3 ρc x (.fz d) _ RC dv ?_
      cases qg : gt (.fz d) ρc with
      | er z => rw [qg] at qP; cases qP
      | bad => rw [qg] at qP; cases qP
      | ok ρ3 =>
        rw [qg, Res.bind_ok] at qP
        intro O4 σ4 H4 e4 R4
        refine ht _ _ _ σ4 H4 ρ3 _ R4 ?_
        cases qt : ft ρ3 with
        | er z => rw [qt] at qP; cases qP
        | bad => rw [qt] at qP; cases qP
        | ok b =>
          obtain ⟨b, ρ4⟩ := b
          rw [qt, Res.bind_ok] at qP
          intro O5 H5 e5 R5
          cases b with
          | false =>
            rw [if_neg Bool.false_ne_true] at qP ⊢
            obtain ⟨l5, k5⟩ := back R5 (H6 := H5) fun b o _ h => h
            refine ⟨hlt, acc, ys, forget ρ4, sv.trans R5.same, R5.same _ _ hD3, ?_, l5, k5, qP⟩
            exact dys.ev (Ev.grow (s3.trans R5.same))
          | true =>
            rw [if_pos rfl] at qP ⊢
            refine he _ _ _ σ4 H5 ρ4 _ R5 ?_
            cases qe : fe ρ4 with
            | er z => rw [qe] at qP; cases qP
            | bad => rw [qe] at qP; cases qP
            | ok r =>
              rw [qe, Res.bind_ok] at qP
              intro O6 yv H6 e6 R6 p6
              cases q7 : toD r.2 r.1 with
              | none => rw [q7] at qP; cases qP
              | some xr =>
                obtain ⟨xd, ρ7⟩ := xr
                rw [q7] at qP
                obtain ⟨O7, e7, R7, dv7⟩ := to_ok R6 p6 q7
                have hD7 : H6 Dd = some (.lst ys) := R7.same _ _ hD3
                have qP' : (if acc.length < 1000000 then compP gt ft fe (ds.drop (i + 1)) (forget ρ7) (acc ++ [xd]) else .bad) = .ok xs := qP
                by_cases hl6 : acc.length < 1000000
                · rw [if_pos hl6] at qP'
                  have up : ∀ b o, b ≠ Dd → H6 b = some o → upd H6 Dd (.lst (ys ++ [yv])) b = some o := fun b o hb h => by rw [upd_ne hb]; exact h
                  have evD : Ev (addO O2 Dd) H6 (addO O2 Dd) (upd H6 Dd (.lst (ys ++ [yv]))) := fun b o h n => ⟨up b o (fun e => n (.inr e)) h, n⟩
                  have dys6 : DVs (addO O2 Dd) K H6 ys acc := dys.ev (Ev.grow (s3.trans R7.same))
                  obtain ⟨l5, k5⟩ := back R7 up
                  refine ⟨ys, hD7, lt1e6 (by rw [dys.length]; exact hl6), hlt, acc ++ [xd], ys ++ [yv], forget ρ7, fun b o h => ?_, upd_same, ?_, l5, k5, qP'⟩
                  · rw [upd_ne (ne_of_none h hDd)]
                    exact R7.same _ _ (sv _ _ h)
                  · exact (dys6.append (.cons (DV.ev (Ev.sub R7.bo) dv7) .nil)).ev evD
                · rw [if_neg hl6] at qP'
                  cases qP'
    · have e : i = ds.length := by omega
      subst e
      rw [List.drop_eq_nil_of_le (Nat.le_refl _)] at qP
      have qP : Res.ok acc = .ok xs := qP
      cases qP
      refine .inl ⟨stop, ?_⟩
      refine w1 (addO O2 Dd) (.ref Dd) H' (e1.trans ev1) (R2.add s hDd nD) ⟨Dd, ys, rfl, .inr rfl, R2.none0 hDd, hD, dys, fun k es hk z => ?_⟩
      obtain ⟨u, h1, b, us, e2, g1, g2, g3, g4⟩ := R2.slot k _ hk
      rw [z] at h1
      cases h1
      cases e2
      rw [hDd] at g3
      cases g3
theorem eo_comp {own : List Str} {fv : List (Str × Nat)} {wi : TI} {g : TG} {tc : TT} {te : TE} {fi : FI} {gt : FG} {ft : FT} {fe : FE} {n : Nat} {fj : List Nat} (hn : own.length = n) (hf : fv.map (·.2) = fj)
    (hi : IO K E wi fi) (hg : GO K E0 g gt) (ht : TTO K E0 tc ft) (he : EO K E0 te fe) : EO K E (tComp own fv wi g tc te) (pComp n fj fi gt ft fe) := eo_compS hn hf hi.s hg ht he
/-- a list that a name has, read item by item within a comprehension: it stays the name's own -/
noncomputable def iKeepS (ρ : PEnv) : Option (Option PV) → Res (List D × PEnv)
  | some (some (.ow ds)) => .ok (ds, ρ)
  | _ => .bad
noncomputable def iKeep (i : Nat) : FI := fun ρ => iKeepS ρ ρ[i]?
theorem ios_keep {i : Nat} : IOS K E (iSeqT K (tVar i)) (iKeep i) := by
  intro B H0 O σ H ρ R' R w
  unfold iKeep at w
  cases q : ρ[i]? with
  | none => rw [q] at w; exact w.elim
  | some o =>
    cases o with
    | none => rw [q] at w; exact w.elim
    | some x =>
      cases x with
      | fz d => rw [q] at w; exact w.elim
      | pl j => rw [q] at w; exact w.elim
      | ow ds =>
        rw [q] at w
        obtain ⟨v, h1, a, vs, rfl, g1, g2, g3, g4⟩ := R.slot i _ q
        refine ⟨_, h1, a, rfl, .inl ⟨⟨vs, SqL.of g3⟩, w O _ H .refl R fun O' H' e s n => ?_⟩⟩
        have k : H' a = some (.lst vs) := s _ _ g3
        have d' := g4.ev e
        refine ⟨fun j hj => ?_, ⟨vs, SqL.of k, by rw [d'.length]; exact Nat.le_refl _⟩⟩
        obtain ⟨x, hx, _⟩ := d'.get (List.getElem?_eq_getElem hj)
        refine ⟨⟨vs, x, SqL.of k, hx⟩, ?_⟩
        rintro y H'' ⟨rfl, hy⟩
        obtain ⟨d, q1, q2⟩ := d'.getV (hy vs (SqL.of k))
        exact ⟨Same.refl _, d, q1, q2⟩
/-! ### a call of a def that raises nothing -/
noncomputable def pCal (F : FN) (n : Nat) (fa : FA) : FE := fun ρ => (fa ρ).bind fun a => (Res.ofO (toDs a.2 a.1)).bind fun b => if b.1.length = n then (noEr (F b.1)).bind fun rv => .ok (rv.pv, b.2) else .bad
theorem eo_cal {F : FN} {n : Nat} {ta : TA} {fa : FA} (ha : AO K E ta fa) : EO K E (tCall (spP K n F) [] E0 ta) (pCal F n fa) := by
  intro B H0 O σ H ρ Q R w
  refine ha B H0 O σ H ρ _ R (w.bind.imp fun a w1 O1 vs H1 e1 R1 p1 => ?_)
  obtain ⟨⟨ds, ρ2⟩, q, w2⟩ := w1.ofO
  obtain ⟨O2, e2, R2, dv⟩ := tos_ok R1 p1 q
  dsimp only at w2
  by_cases hn : ds.length = n
  · rw [if_pos hn] at w2
    obtain ⟨rv, qF, w2⟩ := noEr_ok (WR.bind w2)
    rw [List.append_nil]
    refine ⟨dv.length.trans hn, O2, ds, fun a z hz => R2.od a hz z, dv, ?_⟩
    rw [qF]
    exact fin_of R2 fun O3 v H3 e3 R3 p3 => w2 O3 v H3 (e1.trans (e2.trans e3)) R3 p3
  · rw [if_neg hn] at w2
    exact w2.elim
end
/-! ### a def -/
noncomputable def runF (N : Nat) (g : FS) : FN := fun ds => (g (ds.map (fun d => some (.fz d)) ++ List.replicate (N - ds.length) none)).bind fun fl => match fl with
  | .rt rv => .ok rv
  | .nx _ => .ok (.fz .none)
  | _ => .bad
theorem rl_start {K : PySem.W.Frag} {B : Own} {H : Hp} {N : List Str} {vs : List V} {ds : List D} (hb : ∀ a, B a → H a ≠ none) (dv : DVs B K H vs ds) : Rl K B H B (L2.start N vs) H (ds.map (fun d => some (.fz d)) ++ List.replicate (N.length - ds.length) none) := by
  have hl := dv.length
  refine ⟨Same.refl _, fun _ h => h, hb, fun a z h => hb a h z, ?_, fun i x hx => ?_, fun i j xs ys w hi => ?_⟩
  · unfold L2.start
    rw [List.length_append, List.length_append, List.length_map, List.length_map, List.length_replicate, List.length_replicate, hl]
  all_goals
    have key : ∀ {i : Nat} {x : PV}, (ds.map (fun d => some (PV.fz d)) ++ List.replicate (N.length - ds.length) none)[i]? = some (some x) → ∃ d, x = .fz d ∧ ds[i]? = some d := fun {i x} h => by
      by_cases hi : i < ds.length
      · rw [List.getElem?_append_left (by rw [List.length_map]; exact hi), List.getElem?_map] at h
        cases q : ds[i]? with
        | none => rw [q] at h; cases h
        | some d => rw [q] at h; cases h; exact ⟨d, rfl, rfl⟩
      · rw [List.getElem?_append_right (by rw [List.length_map]; omega), List.getElem?_replicate] at h
        split at h <;> cases h
  · obtain ⟨d, rfl, hd⟩ := key hx
    obtain ⟨v, hv, h2⟩ := dv.get hd
    refine ⟨v, ?_, h2⟩
    have hi : i < vs.length := (List.getElem?_eq_some_iff.mp hv).1
    unfold L2.start
    rw [List.getElem?_append_left (by rw [List.length_map]; exact hi), List.getElem?_map, hv]
    rfl
  · obtain ⟨d, e, _⟩ := key hi
    cases e
theorem okP {P : Program} {w : World} {K : PySem.W.Frag} {mg : Str → Option Value} {base : Heap} {x qual : Str} {st : Stmt} {f : Addr} {fd : FuncData} {N ps : List Str} {k n : Nat} {g : FS} (F : Fun K x qual st f fd) (S : FnScope N ps (defScope st)) (hn : ps.length = n)
    (hbody : ∀ (cdv : Value) (A : Around) (outer : List Env) (s : Shared) (H : Hp) (E : XK), Room k (A.deeper (PyProof.Rows.envOfC qual (defScope st) s.heap.objs.size f cdv)) →
      ∃ t, PSs (cxOf CX0 P w K mg base N qual (defScope st) f cdv A outer s H E).nox (defBody st) t ∧ SO K E t g) : FnOk P w K mg base CX0 (k + 1) f fd ps (spP K n (runF N.length g)) := by
  refine F.ok S (fun vs H Q E h => h.1.trans hn.symm) (fun cdv A outer s H vs Q E hr h => ?_)
  obtain ⟨t, ht, hs⟩ := hbody cdv A outer s H E hr
  obtain ⟨hl, B, ds, hb, dv, h⟩ := h
  refine ⟨t, ht, hs B H B _ H _ _ (rl_start hb dv) (WR.imp (WR.bind h) fun fl q => ?_)⟩
  cases fl with
  | rt rv => exact q
  | nx ρ => exact fun O' σ' H' e R => q .non H' R.same .non
  | bk ρ => exact q.elim
  | ct ρ => exact q.elim
end L3
namespace L3
open PySem PySem.Spec PyProof.Rows L2
/-! ### operations over more than one kind -/
theorem OpR.or {X : Cx} {f : Value → Value → Sem Value} {r r' : R2} (h : OpR X f r) (h' : OpR X f r') : OpR X f (fun x y H Q => r x y H Q ∨ r' x y H Q) := by
  intro pins s σ H x y v u Q I rx ry q
  rcases q with q | q
  · exact h pins s σ H x y v u Q I rx ry q
  · exact h' pins s σ H x y v u Q I rx ry q
theorem lstX {X : Cx} {pins : List (Addr × Obj)} {σ : L2.St} {H : Hp} {s : Shared} {l : Addr} {xs : List V} (I : Inv X pins σ H s) (h : SqLX X.K H l xs) : xs.length ≤ sizeLine ∧ ∃ (its : List Value) (n : Nat), Vals xs its ∧ xs.length = its.length ∧ s.heap.get? l = some { cls := .type "list", data := .seq its.toArray n } := by
  rcases h with (h | ⟨o, h⟩) | ⟨its, n, h1, h2, h3⟩
  · exact I.lstM h
  · obtain ⟨_, z, its, n, r, e⟩ := I.hok l _ h
    exact ⟨z, its, n, r, r.length, e⟩
  · exact ⟨h2, its, n, h3, h3.length, I.kIn _ _ h1⟩
noncomputable def rCatX (K : PySem.W.Frag) : R2 := fun x y H Q => ∃ l b xs zs, x = .ref l ∧ y = .ref b ∧ SqLX K H l xs ∧ SqLX K H b zs ∧ xs.length + zs.length ≤ sizeLine ∧ ∀ p, H p = none → Q (.ref p) (upd H p (.lst (xs ++ zs)))
theorem op_catX {X : Cx} : OpR X (binaryOp .Add) (rCatX X.K) := by
  intro pins s σ H x y v u Q I rx ry h
  obtain ⟨l, b, xs, zs, rfl, rfl, hH, hB, hz, q⟩ := h
  cases rx
  cases ry
  obtain ⟨z, its, n, r, hl, e⟩ := lstX I hH
  obtain ⟨z2, its2, n2, r2, hl2, e2⟩ := lstX I hB
  refine PySem.P.add_list e e2 ?_ (by rw [List.size_toArray, List.size_toArray]; omega)
  have ea : its.toArray ++ its2.toArray = (its ++ its2).toArray := by simp
  rw [ea]
  exact ⟨.ref _, _, I.lnew (t' := s.toks) (r.append r2) (by rw [List.length_append]; omega), rfl, q _ I.fresh⟩
noncomputable def rRepX (K : PySem.W.Frag) : R2 := fun x y H Q => ∃ l k xs, x = .ref l ∧ y = .int k ∧ SqLX K H l xs ∧ -(2 ^ 63) ≤ k ∧ k < 2 ^ 63 ∧ xs.length * k.toNat ≤ sizeLine ∧
  ∀ p, H p = none → Q (.ref p) (upd H p (.lst (List.replicate k.toNat xs).flatten))
theorem op_repX {X : Cx} : OpR X (binaryOp .Mult) (rRepX X.K) := by
  intro pins s σ H x y v u Q I rx ry h
  obtain ⟨l, k, xs, rfl, rfl, hH, h1, h2, hz, q⟩ := h
  cases rx
  obtain ⟨t, rfl⟩ := ry
  obtain ⟨z, its, n, r, hl, e⟩ := lstX I hH
  have hlen : its.toArray.size * k.toNat ≤ sizeLine := by rw [List.size_toArray, ← hl]; exact hz
  have hcap : ¬ its.toArray.size * k.toNat > (2 ^ 63 - 1) / 8 := by
    have : (sizeLine : Nat) ≤ (2 ^ 63 - 1) / 8 := by decide
    omega
  have hfit : ¬ (!Builtin.List.listFitsIndex k) = true := by
    rw [fitsIndex_both h1 h2]
    exact Bool.false_ne_true
  have hlong : ¬ Builtin.List.listTooLong (its.toArray.size * k.toNat) = true := by
    rw [notLongL hlen]
    exact Bool.false_ne_true
  have hnew : List.foldl (fun x1 x2 => x1 ++ x2) #[] (List.replicate (if its.toArray.isEmpty = true then 0 else k.toNat) its.toArray) = (List.replicate k.toNat its).flatten.toArray := by
    have f0 : ∀ m : Nat, List.foldl (fun x1 x2 => x1 ++ x2) #[] (List.replicate m its.toArray) = (List.replicate m its).flatten.toArray := fun m => by
      have := foldl_rep its m []
      rw [List.nil_append] at this
      exact this
    rw [f0]
    cases its with
    | nil => simp
    | cons a r' => rw [if_neg (by simp)]
  refine wpAny_binaryOp_repeat_ref (T := "list") (U := "int") (by decide) ⟨_, e, rfl⟩ (fun s' => typeIs_int s' k t) noFill_list_mul F.fills_int_mul F.slot_int_rmul repeat_list F.slot_int_index.lookup
    (call_meets F.slot_int_rmul (typeIs_int s k t) F.entry_int_rmul (F.args_int_rmul_2 _ _) (int___rmul___int_list k t l its.toArray n)
      ⟨e, rfl, ⟨_, e, rfl⟩, call_meets F.slot_list_mul ⟨_, e, rfl⟩ F.entry_list_mul (F.args_list_mul_2 _ _) (AutoListH.list___mul___list_int_3 l its.toArray n k t hfit hcap hlong) ⟨e, ?_⟩⟩)
  rw [hnew]
  exact ⟨.ref _, _, I.lnew (t' := s.toks) (r.rep k.toNat) (by rw [len_rep, Nat.mul_comm]; exact hz), rfl, q _ I.fresh⟩
section
variable {K : PySem.W.Frag}
/-! ints -/
noncomputable def fI (g : Int → Int → Int) : D → D → Option RV
  | .int i, .int j => some (.fz (.int (g i j)))
  | _, _ => none
noncomputable def fB (g : Int → Int → Bool) : D → D → Option RV
  | .int i, .int j => some (.fz (.bool (g i j)))
  | _, _ => none
noncomputable def fIc (C : Int → Int → Bool) (g : Int → Int → Int) : D → D → Option RV
  | .int i, .int j => if C i j = true then some (.fz (.int (g i j))) else none
  | _, _ => none
theorem fI_cases {g : Int → Int → Int} {dx dy : D} {rv : RV} (h : fI g dx dy = some rv) : ∃ i j, dx = .int i ∧ dy = .int j ∧ rv = .fz (.int (g i j)) := by
  unfold fI at h
  split at h
  · cases h; exact ⟨_, _, rfl, rfl, rfl⟩
  · cases h
theorem opp_i {g : Int → Int → Int} : OpP K (rI0 fun i j => .int (g i j)) (fI g) := by
  intro O H x y dx dy rv Q n hx hy e q
  obtain ⟨i, j, rfl, rfl, rfl⟩ := fI_cases e
  cases hx; cases hy
  exact ⟨i, j, rfl, rfl, q.at (.int _)⟩
theorem opp_b {g : Int → Int → Bool} : OpP K (rI0 fun i j => .bl (g i j)) (fB g) := by
  intro O H x y dx dy rv Q n hx hy e q
  unfold fB at e
  split at e
  · cases e
    cases hx; cases hy
    exact ⟨_, _, rfl, rfl, q.at (.bl _)⟩
  · cases e
theorem opp_ic {C : Int → Int → Bool} {C' : Int → Int → Prop} {g : Int → Int → Int} (hC : ∀ i j, C i j = true → C' i j) : OpP K (rI C' fun i j => .int (g i j)) (fIc C g) := by
  intro O H x y dx dy rv Q n hx hy e q
  unfold fIc at e
  split at e
  · split at e
    · rename_i hc
      cases e
      cases hx; cases hy
      exact ⟨_, _, rfl, rfl, hC _ _ hc, q.at (.int _)⟩
    · cases e
  · cases e
theorem DXl {O : Own} {H : Hp} {x : V} {ds : List D} (h : DX O K H x (.list ds)) : ∃ a xs, x = .ref a ∧ SqLX K H a xs ∧ DVs O K H xs ds := h
theorem DXt {O : Own} {H : Hp} {x : V} {ds : List D} (h : DX O K H x (.tuple ds)) : ∃ a xs, x = .ref a ∧ SqTO O K H a xs ∧ DVs O K H xs ds := asT_ok h rfl
/-! plus -/
noncomputable def rAddA (K : PySem.W.Frag) : R2 := fun x y H Q => rI0 (fun i j => .int (i + j)) x y H Q ∨ rCatX K x y H Q ∨ rCatT K x y H Q
theorem op_addA {X : Cx} : OpR X (binaryOp .Add) (rAddA X.K) := OpR.or op_add (OpR.or op_catX op_catT)
noncomputable def addD : D → D → Option RV
  | .int i, .int j => some (.fz (.int (i + j)))
  | .list xs, .list ys => if xs.length + ys.length ≤ 1000000 then some (.ow (xs ++ ys)) else none
  | .tuple xs, .tuple ys => if xs ≠ [] ∧ xs.length + ys.length ≤ 1000000 then some (.fz (.tuple (xs ++ ys))) else none
  | _, _ => none
theorem le1e6 {n : Nat} (h : n ≤ 1000000) : n ≤ sizeLine := Nat.le_trans h (by decide)
theorem DVs.ne {O : Own} {H : Hp} {vs : List V} {ds : List D} (h : DVs O K H vs ds) : vs = [] ↔ ds = [] := by cases h <;> simp
theorem opp_add : OpP K (rAddA K) addD := by
  intro O H x y dx dy rv Q n hx hy e q
  unfold addD at e
  split at e
  · cases e
    cases hx; cases hy
    exact .inl ⟨_, _, rfl, rfl, q.at (.int _)⟩
  · split at e
    · rename_i hl
      cases e
      obtain ⟨a, xs, rfl, h1, h2⟩ := DXl hx
      obtain ⟨b, ys, rfl, g1, g2⟩ := DXl hy
      exact .inr (.inl ⟨a, b, xs, ys, rfl, rfl, h1, g1, le1e6 (by rw [h2.length, g2.length]; exact hl), Fin.new (h2.append g2) q⟩)
    · cases e
  · split at e
    · rename_i hl
      cases e
      obtain ⟨a, xs, rfl, h1, h2⟩ := DXt hx
      obtain ⟨b, ys, rfl, g1, g2⟩ := DXt hy
      refine .inr (.inr ⟨a, b, xs, ys, rfl, rfl, h1.1, g1.1, fun z => hl.1 (h2.ne.mp z), le1e6 (by rw [h2.length, g2.length]; exact hl.2), fun z => ?_, fun _ => Fin.newT (h2.append g2) n q⟩)
      have z' := g2.ne.mp z
      subst z'
      rw [List.append_nil] at q
      exact q.at (.tup h1 h2)
    · cases e
  · cases e
/-! times -/
noncomputable def rMulA (K : PySem.W.Frag) : R2 := fun x y H Q => rI CMul (fun i j => .int (i * j)) x y H Q ∨ rRepX K x y H Q
theorem op_mulA {X : Cx} : OpR X (binaryOp .Mult) (rMulA X.K) := OpR.or op_mul op_repX
noncomputable def small64 (i : Int) : Bool := decide (-(2 ^ 64) < i ∧ i < 2 ^ 64)
theorem small64_ok {i : Int} (h : small64 i = true) : -(2 ^ 64) < i ∧ i < 2 ^ 64 := of_decide_eq_true h
noncomputable def mulD : D → D → Option RV
  | .int i, .int j => if (small64 i || small64 j) = true then some (.fz (.int (i * j))) else none
  | .list xs, .int k => if xs.length * k.toNat ≤ 1000000 ∧ -(2 ^ 63) ≤ k ∧ k < 2 ^ 63 then some (.ow (List.replicate k.toNat xs).flatten) else none
  | _, _ => none
theorem opp_mul : OpP K (rMulA K) mulD := by
  intro O H x y dx dy rv Q n hx hy e q
  unfold mulD at e
  split at e
  · split at e
    · rename_i hc
      cases e
      cases hx; cases hy
      refine .inl ⟨_, _, rfl, rfl, ?_, q.at (.int _)⟩
      rcases (Bool.or_eq_true _ _).mp hc with z | z
      · exact .inl (small64_ok z)
      · exact .inr (small64_ok z)
    · cases e
  · split at e
    · rename_i hc
      cases e
      cases hy
      obtain ⟨a, xs, rfl, h1, h2⟩ := DXl hx
      exact .inr ⟨a, _, xs, rfl, rfl, h1, hc.2.1, hc.2.2, le1e6 (by rw [h2.length]; exact hc.1), Fin.new (h2.flat _) q⟩
    · cases e
  · cases e
/-! the other operations upon ints -/
noncomputable def subD := fI fun i j => i - j
theorem opp_sub : OpP K (rI0 fun i j => .int (i - j)) subD := opp_i
noncomputable def posC (_ j : Int) : Bool := decide (0 < j)
noncomputable def modD := fIc posC fun i j => i % j
theorem opp_mod : OpP K (rI (fun _ j => 0 < j) fun i j => .int (i % j)) modD := opp_ic fun i j h => of_decide_eq_true h
noncomputable def divC (_ j : Int) : Bool := decide (0 < j ∧ j < 2 ^ 128)
noncomputable def divD := fIc divC fun i j => i / j
theorem opp_div : OpP K (rI (fun _ j => 0 < j ∧ j.natAbs.log2 < 9000) fun i j => .int (i / j)) divD := opp_ic fun i j h => by
  have h' := of_decide_eq_true h
  refine ⟨h'.1, ?_⟩
  have h2 : j.natAbs < 2 ^ 128 := by
    have := h'.2
    omega
  have h3 : j.natAbs.log2 < 128 := (Nat.log2_lt (by omega)).mpr h2
  omega
noncomputable def powC (i j : Int) : Bool := decide (0 ≤ j ∧ j ≤ 1000000 ∧ i.natAbs < 2 ^ 64)
theorem powC_ok (i j : Int) (h : powC i j = true) : CPow i j := by
  unfold powC at h
  exact (show 0 ≤ j ∧ j ≤ 1000000 ∧ i.natAbs < 2 ^ 64 from of_decide_eq_true h)
noncomputable def powD := fIc powC fun i j => i ^ j.toNat
theorem opp_pow : OpP K (rI CPow fun i j => .int (i ^ j.toNat)) powD := opp_ic powC_ok
noncomputable def nnC (_ j : Int) : Bool := decide (0 ≤ j)
noncomputable def shrD := fIc nnC fun i j => i / 2 ^ j.toNat
noncomputable def bandD := fI fun i j => Builtin.bitAnd i j
noncomputable def borD := fI fun i j => Builtin.bitOr i j
noncomputable def ltD := fB fun i j => decide (i < j)
noncomputable def leD := fB fun i j => decide (i ≤ j)
noncomputable def gtD := fB fun i j => decide (j < i)
noncomputable def geD := fB fun i j => decide (j ≤ i)
theorem opp_lt : OpP K (rI0 fun i j => .bl (decide (i < j))) ltD := opp_b
theorem opp_le : OpP K (rI0 fun i j => .bl (decide (i ≤ j))) leD := opp_b
theorem opp_gt : OpP K (rI0 fun i j => .bl (decide (j < i))) gtD := opp_b
theorem opp_ge : OpP K (rI0 fun i j => .bl (decide (j ≤ i))) geD := opp_b
/-! equality -/
noncomputable def okD (d : D) : Bool := d.canLay0 && decide (d.depth ≤ 64)
noncomputable def eqD (d e : D) : Option RV := if (okD d && e.canLay0) = true then some (.fz (.bool (PyData.eqv d e))) else none
noncomputable def neD (d e : D) : Option RV := if (okD d && e.canLay0) = true then some (.fz (.bool (!PyData.eqv d e))) else none
theorem opp_eq : OpP K (rEqD K false) eqD := by
  intro O H x y dx dy rv Q n hx hy e q
  unfold eqD at e
  split at e
  · rename_i hc
    cases e
    unfold okD at hc
    simp only [Bool.and_eq_true, decide_eq_true_eq] at hc
    exact ⟨dx, dy, hx.plain, hy.plain, hc.1.1, hc.2, hc.1.2, q.at (.bl _)⟩
  · cases e
theorem opp_ne : OpP K (rEqD K true) neD := by
  intro O H x y dx dy rv Q n hx hy e q
  unfold neD at e
  split at e
  · rename_i hc
    cases e
    unfold okD at hc
    simp only [Bool.and_eq_true, decide_eq_true_eq] at hc
    exact ⟨dx, dy, hx.plain, hy.plain, hc.1.1, hc.2, hc.1.2, q.at (.bl _)⟩
  · cases e
/-! is None -/
noncomputable def isnD : D → D → Option RV
  | .none, .none => some (.fz (.bool true))
  | _, .none => some (.fz (.bool false))
  | _, _ => none
noncomputable def ntnD : D → D → Option RV
  | .none, .none => some (.fz (.bool false))
  | _, .none => some (.fz (.bool true))
  | _, _ => none
theorem dx_non {O : Own} {H : Hp} {x : V} {d : D} (h : DX O K H x d) (hd : d ≠ .none) : x ≠ .non := by
  cases d with
  | none => exact absurd rfl hd
  | list ds => obtain ⟨a, xs, rfl, _⟩ := DXl h; simp
  | tuple ds => obtain ⟨a, xs, rfl, _⟩ := DXt h; simp
  | bool b => cases h; simp
  | int b => cases h; simp
  | str b => cases h; simp
  | dict b => cases h
theorem opp_isn : OpP K (fun x y H Q => y = .non ∧ Q (.bl (decide (x = .non))) H) isnD := by
  intro O H x y dx dy rv Q n hx hy e q
  unfold isnD at e
  split at e
  · cases e
    cases hx; cases hy
    exact ⟨rfl, q.at (.bl _)⟩
  · rename_i hd
    cases e
    cases hy
    refine ⟨rfl, ?_⟩
    rw [decide_eq_false (dx_non hx hd)]
    exact q.at (.bl _)
  · cases e
theorem opp_ntn : OpP K (fun x y H Q => y = .non ∧ Q (.bl (!decide (x = .non))) H) ntnD := by
  intro O H x y dx dy rv Q n hx hy e q
  unfold ntnD at e
  split at e
  · cases e
    cases hx; cases hy
    exact ⟨rfl, q.at (.bl _)⟩
  · rename_i hd
    cases e
    cases hy
    refine ⟨rfl, ?_⟩
    rw [decide_eq_false (dx_non hx hd)]
    exact q.at (.bl _)
  · cases e
/-! in -/
noncomputable def rInD (K : PySem.W.Frag) (neg : Bool) : R2 := fun x y H Q => ∃ d ds, L2.DV K H x d ∧ (L2.DV K H y (.list ds) ∨ L2.DV K H y (.tuple ds)) ∧ d.canLay0 = true ∧ PyData.canLayAll0 ds = true ∧ d.depth ≤ 64 ∧ Q (.bl (if neg then !(ds.any fun e => PyData.eqv e d) else ds.any fun e => PyData.eqv e d)) H
theorem op_inD {X : Cx} (hu : X.A.units + 65 < cLine) : OpR X (compareOp .In) (rInD X.K false) := by
  intro pins s σ H x y v u Q I rx ry h
  obtain ⟨d, ds, h1, h2, l1, l2, hd, q⟩ := h
  obtain ⟨as, r1⟩ := h1.reads I rx
  have hm : min (PyData.depthAll ds) d.depth ≤ 64 := Nat.le_trans (Nat.min_le_right _ _) hd
  rcases h2 with h2 | h2
  · obtain ⟨bs, r2⟩ := h2.reads I ry
    exact PySem.SeqAt.in_list_reads r2 r1 l2 l1 (by omega) ⟨.bl _, H, I, rfl, q⟩
  · obtain ⟨bs, r2⟩ := h2.reads I ry
    exact PySem.SeqAt.in_tuple_reads r2 r1 l2 l1 (by omega) ⟨.bl _, H, I, rfl, q⟩
theorem op_ninD {X : Cx} (hu : X.A.units + 65 < cLine) : OpR X (compareOp .NotIn) (rInD X.K true) := by
  intro pins s σ H x y v u Q I rx ry h
  obtain ⟨d, ds, h1, h2, l1, l2, hd, q⟩ := h
  obtain ⟨as, r1⟩ := h1.reads I rx
  have hm : min (PyData.depthAll ds) d.depth ≤ 64 := Nat.le_trans (Nat.min_le_right _ _) hd
  rcases h2 with h2 | h2
  · obtain ⟨bs, r2⟩ := h2.reads I ry
    exact PySem.SeqAt.notIn_list_reads r2 r1 l2 l1 (by omega) ⟨.bl _, H, I, rfl, q⟩
  · obtain ⟨bs, r2⟩ := h2.reads I ry
    exact PySem.SeqAt.notIn_tuple_reads r2 r1 l2 l1 (by omega) ⟨.bl _, H, I, rfl, q⟩
noncomputable def inD (d e : D) : Option RV := match asSeq e with
  | some ds => if (okD d && PyData.canLayAll0 ds) = true then some (.fz (.bool (ds.any fun e => PyData.eqv e d))) else none
  | none => none
noncomputable def ninD (d e : D) : Option RV := match asSeq e with
  | some ds => if (okD d && PyData.canLayAll0 ds) = true then some (.fz (.bool (!ds.any fun e => PyData.eqv e d))) else none
  | none => none
theorem seq_of {O : Own} {H : Hp} {y : V} {e : D} {ds : List D} (hy : DX O K H y e) (h : asSeq e = some ds) : L2.DV K H y (.list ds) ∨ L2.DV K H y (.tuple ds) := by
  unfold asSeq at h
  split at h
  · cases h; exact .inr hy.plain
  · cases h; exact .inl hy.plain
  · cases h
theorem opp_in : OpP K (rInD K false) inD := by
  intro O H x y dx dy rv Q n hx hy e q
  unfold inD at e
  split at e
  · rename_i ds hs
    split at e
    · rename_i hc
      cases e
      unfold okD at hc
      simp only [Bool.and_eq_true, decide_eq_true_eq] at hc
      exact ⟨dx, ds, hx.plain, seq_of hy hs, hc.1.1, hc.2, hc.1.2, q.at (.bl _)⟩
    · cases e
  · cases e
theorem opp_nin : OpP K (rInD K true) ninD := by
  intro O H x y dx dy rv Q n hx hy e q
  unfold ninD at e
  split at e
  · rename_i ds hs
    split at e
    · rename_i hc
      cases e
      unfold okD at hc
      simp only [Bool.and_eq_true, decide_eq_true_eq] at hc
      exact ⟨dx, ds, hx.plain, seq_of hy hs, hc.1.1, hc.2, hc.1.2, q.at (.bl _)⟩
    · cases e
  · cases e
/-! an item, a slice -/
noncomputable def ixD (d e : D) : Option RV := match asSeq d, e with
  | some ds, .int i => (atI ds i).map .fz
  | _, _ => none
theorem atI_dv {O : Own} {H : Hp} {xs : List V} {ds : List D} {i : Int} {d : D} (h : DVs O K H xs ds) (e : atI ds i = some d) : ∃ v, atI xs i = some v ∧ DV O K H v d := by
  unfold atI at e ⊢
  rw [h.length]
  cases q : ixN ds.length i with
  | none => rw [q] at e; cases e
  | some j =>
    rw [q] at e
    exact h.get e
theorem opp_ix : OpP K (rIx K) ixD := by
  intro O H x y dx dy rv Q n hx hy e q
  unfold ixD at e
  split at e
  · rename_i ds i hs
    cases hy
    cases qa : atI ds i with
    | none => rw [qa] at e; cases e
    | some d =>
      rw [qa] at e
      cases e
      unfold asSeq at hs
      split at hs
      · cases hs
        obtain ⟨a, xs, rfl, h1, h2⟩ := DXt hx
        obtain ⟨v, hv, dv⟩ := atI_dv h2 qa
        exact .inr (.inl ⟨a, xs, i, v, rfl, rfl, h1.1, hv, q.at dv⟩)
      · cases hs
        obtain ⟨a, xs, rfl, h1, h2⟩ := DXl hx
        obtain ⟨v, hv, dv⟩ := atI_dv h2 qa
        exact .inl ⟨a, xs, i, v, rfl, rfl, h1.sq, hv, q.at dv⟩
      · cases hs
  · cases e
noncomputable def cutD (xs : List D) (lo hi : Option Int) : List D := (xs.drop (HT.sIx xs.length 0 lo)).take (HT.sIx xs.length xs.length hi - HT.sIx xs.length 0 lo)
theorem cut_dv {O : Own} {H : Hp} {xs : List V} {ds : List D} {lo hi : Option Int} (h : DVs O K H xs ds) : DVs O K H (cutV xs lo hi) (cutD ds lo hi) := by
  unfold cutV cutD
  rw [h.length]
  exact (h.drop _).take _
noncomputable def wholeCut (n : Nat) (lo hi : Option Int) : Bool := decide (HT.sIx n 0 lo = 0 ∧ HT.sIx n n hi = n)
noncomputable def rSlA (K : PySem.W.Frag) : V → Option Int → Option Int → Hp → VK → Prop := fun x lo hi H Q => rSlL K x lo hi H Q ∨ rSlT K x lo hi H Q
theorem sl_any {X : Cx} : SlR X (rSlA X.K) := by
  intro pins s σ H x v vl vu lo hi sl Q I rx hs pl pu h
  rcases h with h | h
  · exact sl_list pins s σ H x v vl vu lo hi sl Q I rx hs pl pu h
  · exact sl_tup pins s σ H x v vl vu lo hi sl Q I rx hs pl pu h
noncomputable def slD : D → Option Int → Option Int → Option RV
  | .list ds, lo, hi => some (.ow (cutD ds lo hi))
  | .tuple ds, lo, hi => if wholeCut ds.length lo hi = true then none else some (.fz (.tuple (cutD ds lo hi)))
  | _, _, _ => none
theorem slp_any : SlP K (rSlA K) slD := by
  intro O H x lo hi dx rv Q n hx e q
  unfold slD at e
  split at e
  · cases e
    obtain ⟨a, xs, rfl, h1, h2⟩ := DXl hx
    exact .inl ⟨a, xs, rfl, h1.sq, Fin.new (cut_dv h2) q⟩
  · split at e
    · cases e
    · rename_i hw
      cases e
      obtain ⟨a, xs, rfl, h1, h2⟩ := DXt hx
      refine .inr ⟨a, xs, rfl, h1.1, fun z => hw ?_, Fin.newT (cut_dv h2) n q⟩
      unfold wholeCut
      rw [← h2.length]
      exact decide_eq_true z
  · cases e
/-! unary minus -/
noncomputable def negD : D → Option RV
  | .int i => some (.fz (.int (-i)))
  | _ => none
theorem unp_neg : UnP K (rU fun i => .int (-i)) negD := by
  intro O H x dx rv Q n hx e q
  unfold negD at e
  split at e
  · cases e
    cases hx
    exact ⟨_, rfl, q.at (.int _)⟩
  · cases e
/-! built-ins -/
noncomputable def lenD : List D → Option RV
  | [d] => (match asSeq d with
    | some ds => some (.fz (.int ds.length))
    | none => none)
  | _ => none
theorem cb_len : CbP K (fun xs H Q => ∃ x n, xs = [x] ∧ LenV K x H n ∧ Q (.int n) H) lenD := by
  intro O H xs ds rv Q n hp e q
  unfold lenD at e
  split at e
  · split at e
    · rename_i es hs
      cases e
      cases hp with
      | cons h1 h2 =>
        cases h2
        unfold asSeq at hs
        split at hs
        · cases hs
          obtain ⟨a, xs, rfl, h1, h2⟩ := DXt h1
          exact ⟨_, xs.length, rfl, .inr ⟨xs, h1.1, rfl⟩, by rw [h2.length]; exact q.at (.int _)⟩
        · cases hs
          obtain ⟨a, xs, rfl, h1, h2⟩ := DXl h1
          exact ⟨_, xs.length, rfl, .inl ⟨xs, h1.sq, rfl⟩, by rw [h2.length]; exact q.at (.int _)⟩
        · cases hs
    · cases e
  · cases e
noncomputable def tupD : List D → Option RV
  | [.tuple ds] => some (.fz (.tuple ds))
  | [.list ds] => some (.fz (.tuple ds))
  | _ => none
theorem cb_tuple : CbP K (fun xs H Q => ∃ p ys, xs = [.ref p] ∧ ((SqL K H p ys ∧ ∀ l, H l = none → Q (.ref l) (upd H l (.tup ys))) ∨ (SqT K H p ys ∧ Q (.ref p) H))) tupD := by
  intro O H xs ds rv Q n hp e q
  unfold tupD at e
  split at e
  · cases e
    cases hp with
    | cons h1 h2 =>
      cases h2
      obtain ⟨a, xs, rfl, h1, h2⟩ := DXt h1
      exact ⟨a, xs, rfl, .inr ⟨h1.1, q.at (.tup h1 h2)⟩⟩
  · cases e
    cases hp with
    | cons h1 h2 =>
      cases h2
      obtain ⟨a, xs, rfl, h1, h2⟩ := DXl h1
      exact ⟨a, xs, rfl, .inl ⟨h1.sq, Fin.newT h2 n q⟩⟩
  · cases e
noncomputable def lstD : List D → Option RV
  | [d] => (asSeq d).map .ow
  | _ => none
noncomputable def max2D : List D → Option RV
  | [.int i, .int j] => some (.fz (.int (if j > i then j else i)))
  | _ => none
theorem cb_max2 : CbP K (fun xs H Q => ∃ i j, xs = [.int i, .int j] ∧ Q (.int (if j > i then j else i)) H) max2D := by
  intro O H xs ds rv Q n hp e q
  unfold max2D at e
  split at e
  · cases e
    cases hp with
    | cons h1 h2 =>
      cases h2 with
      | cons h2 h3 =>
        cases h3; cases h1; cases h2
        exact ⟨_, _, rfl, q.at (.int _)⟩
  · cases e
end
end L3
namespace PySem
open Sem (wp)
open AutoSeq1 (wpAny_loadPart')
open Builtin Builtin.Str
section
variable {prog : Program} {w : World} {A : Around} {E : Value → Shared → Prop} {s : Shared}
theorem nextOf_tuple_item {it t : Addr} {i : Nat} {items : Array Value} {x : Value} {Q : Value → Shared → Prop} (hit : s.heap.IsTupleIter it t i) (ht : s.heap.IsTuple t items) (hx : items[i]? = some x)
    (hQ : ∀ h', h'.IsTupleIter it t (i + 1) → Heap.SameBut it s.heap h' → Q x { s with heap := h' }) : wpAny (model prog w) A (Builtin.SmallTypes.nextOf (.ref it)) Q E s := by
  obtain ⟨o, ho, hc, hd⟩ := id hit
  obtain ⟨ol, hol, _, nl, hdl⟩ := ht
  unfold Builtin.SmallTypes.nextOf
  refine wpAny_bind (wpAny_callSpecial?_slot (name := Str.ofString "__next__") hit.typeIs F.slot_tuple_iterator_next
    (wpAny_call_entry F.slot_tuple_iterator_next hit.typeIs F.entry_tuple_iterator_next ?_ (F.args_tuple_iterator_next_1 _)))
  show wpAny _ _ (field (.ref it) 0 >>= _) _ _ s
  refine wpAny_bind (wpAny_field ho hd (x := .ref t) rfl ?_)
  show wpAny _ _ (if (Value.ref t == Value.none) = true then _ else _) _ _ s
  rw [if_neg (show ¬ ((Value.ref t == Value.none) = true) from Bool.false_ne_true)]
  show wpAny _ _ (field (.ref it) 1 >>= _) _ _ s
  refine wpAny_bind (wpAny_field ho hd (x := .int i 0) rfl ?_)
  show wpAny _ _ (seqItems? (.ref t) >>= _) _ _ s
  refine wpAny_bind (wpAny_seqItems hol hdl ?_)
  simp only [Int.toNat_natCast, hx]
  refine wpAny_bind (wpAny_setField ho hd (by simp) (wpAny_pure ⟨x, rfl, wpAny_pure (hQ _ ?_ (Heap.SameBut.update ..))⟩))
  exact ⟨_, Heap.get?_update_self _ ho (Obj.isFreed_of_fields (Obj.data_mapFields hd _)), (Obj.cls_mapFields ..).trans hc, by
    rw [Obj.data_mapFields hd]; simp [rawInt]⟩
theorem nextOf_tuple_end {it t : Addr} {i : Nat} {items : Array Value} {Q : Value → Shared → Prop} (hh : A.handled = none) (hit : s.heap.IsTupleIter it t i) (ht : s.heap.IsTuple t items) (hx : items[i]? = none)
    (hE : ∀ h' e, Heap.ExtBut it s.heap h' → (∃ o, h'.get? e = some o ∧ o.cls = .type "StopIteration") → E (.ref e) { s with heap := h' }) : wpAny (model prog w) A (Builtin.SmallTypes.nextOf (.ref it)) Q E s := by
  obtain ⟨o, ho, hc, hd⟩ := id hit
  obtain ⟨ol, hol, _, nl, hdl⟩ := ht
  unfold Builtin.SmallTypes.nextOf
  refine wpAny_bind (wpAny_callSpecial?_slot (name := Str.ofString "__next__") hit.typeIs F.slot_tuple_iterator_next
    (wpAny_call_entry F.slot_tuple_iterator_next hit.typeIs F.entry_tuple_iterator_next ?_ (F.args_tuple_iterator_next_1 _)))
  show wpAny _ _ (field (.ref it) 0 >>= _) _ _ s
  refine wpAny_bind (wpAny_field ho hd (x := .ref t) rfl ?_)
  show wpAny _ _ (if (Value.ref t == Value.none) = true then _ else _) _ _ s
  rw [if_neg (show ¬ ((Value.ref t == Value.none) = true) from Bool.false_ne_true)]
  show wpAny _ _ (field (.ref it) 1 >>= _) _ _ s
  refine wpAny_bind (wpAny_field ho hd (x := .int i 0) rfl ?_)
  show wpAny _ _ (seqItems? (.ref t) >>= _) _ _ s
  refine wpAny_bind (wpAny_seqItems hol hdl ?_)
  simp only [Int.toNat_natCast, hx]
  refine wpAny_bind (wpAny_rule (wpAny_bind (wpAny_setField ho hd (by simp) ?_)))
  show wpAny _ _ (newExc (.type "StopIteration") [] >>= _) _ _ _
  refine wpAny_bind ?_
  simp only [newExc, newTuple]
  refine wpAny_bind (wpAny_newObj_type ?_ (by size_fits))
  refine wpAny_bind (m := firstArgMember _ _) (wpAny_of_eq (a := Value.none) (by first | rfl | (simp only [firstArgMember]; rfl)) ?_)
  refine wpAny_newObj_type ?_ (by size_fits)
  simp only [raiseNew]
  refine wpAny_bind (wpAny_handled ?_)
  first | rw [show A.in1.handled = none from hh] | rw [hh]
  refine wpAny_bind (wpAny_pure (wpAny_throw ?_))
  exact hE _ _ (((Heap.SameBut.update ..).extBut.push _).push _) ⟨_, Heap.get?_push_size _ rfl, rfl⟩
end
theorem drawsTup {prog : Program} {w : World} {A : Around} (hh : A.handled = none) (it l : Addr) (hne : l ≠ it) (items : Array Value) :
    Draws prog w A it [it, l] items.size (fun i v => items[i]? = some v) (fun i h => h.IsTupleIter it l i ∧ h.IsTuple l items) where
  live := fun _ _ st => let ⟨o, ho, _⟩ := st.1; ⟨o, ho⟩
  frame := fun _ _ _ st hk => ⟨st.1.at fun o e => hk it (by simp) o e, let ⟨o, h1, h2⟩ := st.2; ⟨o, hk l (by simp) o h1, h2⟩⟩
  item := fun i s Q E hi st hQ => by
    refine nextOf_tuple_item st.1 st.2 (x := items[i]) (by simp [hi]) fun h' hit' hs' => ?_
    exact hQ _ h' s.toks (by simp [hi]) ⟨hit', let ⟨o, h1, h2⟩ := st.2; ⟨o, (hs'.2 l hne).trans h1, h2⟩⟩ hs'
  done := fun s Q E st hE => nextOf_tuple_end hh st.1 st.2 (by simp) hE
set_option maxHeartbeats 4000000 in
theorem meets_enumerate_newT (l : Addr) (items : Array Value) (n : Nat) (dct : Option Addr) (sl : Array (Option Value)) :
    Meets (Builtin.«enumerate.__new__» ⟨[.type "enumerate", .ref l], []⟩) (fun _ R s => s.heap.get? l = some { cls := .type "tuple", dict := dct, data := .seq items n, slots := sl } ∧
      R (.ok (.ret (.ref (s.heap.push { cls := .type "tuple_iterator", data := .fields #[.ref l, .int 0 0] }).objs.size)))
        { s with heap := (s.heap.push { cls := .type "tuple_iterator", data := .fields #[.ref l, .int 0 0] }).push { cls := .type "enumerate", data := .fields #[.none, .bool false, .ref s.heap.objs.size, rawInt 0, .none, .none] } }) :=
  .of_wp fun prog w A R s h => by
    obtain ⟨hp, g, d, tk, os⟩ := s; obtain ⟨hl, h⟩ := h
    have hsub := sub_enumerate
    have hL : Heap.IsTuple (Shared.heap ⟨hp, g, d, tk, os⟩) l items := ⟨_, hl, rfl, n, rfl⟩
    wp_walk using wpAny_loadPart' hl
    refine wpAny_stack_any fun st => wpAny_pure ?_
    split
    · rename_i c _ _ _ _ _
      cases (c == Value.type "enumerate")
      · wp_walk using wpAny_loadPart' hl, wpAny_pyIter_tuple hL
        exact ⟨_, rfl, h⟩
      · wp_walk using wpAny_loadPart' hl, wpAny_pyIter_tuple hL
        exact ⟨_, rfl, h⟩
    · wp_walk using wpAny_loadPart' hl, wpAny_pyIter_tuple hL
      exact ⟨_, rfl, h⟩
section
variable {prog : Program} {w : World} {A : Around} {E : Value → Shared → Prop} {s : Shared}
theorem call_enumerate_tuple {l : Addr} {items : Array Value} {Q : Value → Shared → Prop} (hL : s.heap.IsTuple l items)
    (h : ∀ h', IsEnum h' (s.heap.objs.size + 1) s.heap.objs.size 0 .none → h'.IsTupleIter s.heap.objs.size l 0 → h'.objs.size = s.heap.objs.size + 2 →
      (∀ b o, s.heap.get? b = some o → h'.get? b = some o) → Q (.ref (s.heap.objs.size + 1)) { s with heap := h' }) :
    wpAny (model prog w) A (call (.type "enumerate") [.ref l]) Q E s := by
  obtain ⟨⟨c, dct, dt, sl⟩, hl, hc, n, hd⟩ := hL
  replace hc : c = .type "tuple" := hc
  replace hd : dt = .seq items n := hd
  subst hc hd
  refine callType_new F.called_enumerate (by decide) (F.typeCall_enumerate_1 _) (F.newCall_enumerate_1 _) (fun obj => F.args_object_init_2 obj _) F.entry_enumerate_new
    (meets_enumerate_newT l items n dct sl) ⟨hl, ?_⟩
  have hz : (s.heap.push { cls := .type "tuple_iterator", data := .fields #[.ref l, .int 0 0] }).objs.size = s.heap.objs.size + 1 := Heap.size_push ..
  show _ ∧ _
  rw [hz]
  have he : IsEnum ((s.heap.push { cls := .type "tuple_iterator", data := .fields #[.ref l, .int 0 0] }).push
      { cls := .type "enumerate", data := .fields #[.none, .bool false, .ref s.heap.objs.size, rawInt 0, .none, .none] }) (s.heap.objs.size + 1) s.heap.objs.size 0 .none := by
    have := Heap.get?_push_size (s.heap.push { cls := .type "tuple_iterator", data := .fields #[.ref l, .int 0 0] })
      (o := { cls := .type "enumerate", data := .fields #[.none, .bool false, .ref s.heap.objs.size, rawInt 0, .none, .none] }) rfl
    rw [hz] at this; exact this
  refine ⟨⟨_, he, rfl⟩, h _ he ⟨_, Heap.get?_push_of_some _ (Heap.get?_push_size _ rfl), rfl, rfl⟩ (by rw [Heap.size_push, hz]) fun b o x => Heap.get?_push_of_some _ (Heap.get?_push_of_some _ x)⟩
end
end PySem
namespace L3
open PySem PySem.Spec PyProof.Rows L2
/-! ### enumerate -/
noncomputable def Itet (K : PySem.W.Frag) (a : Addr) : It :=
  ⟨fun i H => ∃ xs x, SqT K H a xs ∧ xs[i]? = some x,
   fun i H v H' => ∃ p x, H p = none ∧ v = .ref p ∧ (∀ xs, SqT K H a xs → xs[i]? = some x) ∧ H' = upd H p (.tup [.int i, x]),
   fun i H => ∃ xs, SqT K H a xs ∧ xs.length ≤ i⟩
theorem tup_inj {X : Cx} {pins : List (Addr × Obj)} {σ : L2.St} {H : Hp} {s : Shared} {a : Addr} {xs ys : List V} (I : Inv X pins σ H s) (h1 : SqT X.K H a xs) (h2 : SqT X.K H a ys) : xs = ys := by
  obtain ⟨its, r1, ⟨o, e1, _, n, d1⟩, _⟩ := I.tuple h1
  obtain ⟨its2, r2, ⟨o2, e2, _, n2, d2⟩, _⟩ := I.tuple h2
  rw [e1] at e2
  cases e2
  rw [d1] at d2
  have : its = its2 := by
    have q : its.toArray = its2.toArray := by injection d2
    simpa using q
  subst this
  exact r1.inj r2
theorem turn_enumT {P : Program} {w : World} {K : PySem.W.Frag} {elts : List Expr} {kk} {tp : Pos} (a e it : Addr) (hne : e ≠ it) (hai : a ≠ it) (hae : a ≠ e) :
    Turn P w K (.Tuple elts kk tp) (Itet K a) [e, it] e (fun i h => (∃ old, IsEnum h e it i old) ∧ h.IsTupleIter it a i) where
  mem := by simp
  obj := fun i h st b hb => by
    obtain ⟨⟨old, he⟩, o, ho, _, d⟩ := st
    rcases List.mem_cons.mp hb with z | hb
    · subst z
      exact ⟨_, he, fun v z => by cases (show Data.fields _ = Data.cell v from z)⟩
    · have z : b = it := by simpa using hb
      subst z
      exact ⟨o, ho, fun v z => by rw [d] at z; cases z⟩
  keep := fun i h h' st k => by
    obtain ⟨⟨old, he⟩, hit⟩ := st
    exact ⟨⟨old, k e (by simp) _ he⟩, hit.at fun o q => k it (by simp) o q⟩
  item := by
    intro X hP hw hK hc i pins s σ H E I hf st hg
    subst hP hw hK
    obtain ⟨⟨old, he⟩, hit⟩ := st
    obtain ⟨xs, x, hq, hx⟩ := hg
    obtain ⟨its, rv, p, hz⟩ := I.tuple hq
    obtain ⟨u, hu, ru⟩ := rv.get hx
    have hlt : i < its.toArray.size := by
      have := (List.getElem?_eq_some_iff.mp hu).1
      simpa using this
    refine wpAny_pyNext_enum_itemD (drawsTup (A := X.A.in1) (I.ok.hd hc) it a hai its.toArray) he ⟨hit, p⟩ hlt hne (by simp [hne, hae.symm]) fun y h1 tk hy ho hit1 hT hsz hk => ⟨_, rfl, ?_⟩
    have hyu : y = u := by
      have q : its.toArray[i]? = some u := by simpa using hu
      rw [q] at hy
      exact (Option.some.inj hy).symm
    subst hyu
    refine wpAny_letOwnedTupleGo_enum (s := { s with heap := h1, toks := tk + 1 }) ho fun h2 he2 hs2 => ?_
    have hel : e < s.heap.objs.size := Heap.lt_size he
    have hil : it < s.heap.objs.size := by obtain ⟨_, z, _⟩ := hit; exact Heap.lt_size z
    have hn : H s.heap.objs.size = none := I.hok.fresh (Nat.le_refl _)
    have kk : ∀ b o, b ∉ [e, it] → s.heap.get? b = some o → h2.get? b = some o := fun b o hb q => by
      have h3 : b ≠ e := fun z => hb (by simp [z])
      have h4 : b ≠ it := fun z => hb (by simp [z])
      exact (hs2.2 b h3).trans (hk b o h3 h4 q)
    have hT2 : h2.get? s.heap.objs.size = some { cls := .type "tuple", data := .seq #[.int i tk, y] } := (hs2.2 _ (Nat.ne_of_gt hel)).trans hT
    have I2 : Inv X pins σ (upd H s.heap.objs.size (.tup [.int i, x])) { s with heap := h2, toks := tk + 1 } :=
      I.turnedLaid (ch := [e, it]) hf kk (Nat.le_refl _) ⟨by show 2 ≤ sizeLine; decide, [.int i tk, y], .cons ⟨_, rfl⟩ (.cons ru .nil), ⟨_, hT2, rfl, _, rfl⟩⟩
    refine ⟨.ref s.heap.objs.size, _, I2, rfl, ⟨_, x, hn, rfl, fun ys hy => by rw [tup_inj I hy hq]; exact hx, rfl⟩, ⟨⟨y, he2⟩, hit1.1.at fun o q => (hs2.2 it hne.symm).trans q⟩, fun b hb => ?_⟩
    have hb2 : b ≠ s.heap.objs.size := by
      rcases List.mem_cons.mp hb with z | hb
      · rw [z]; exact Nat.ne_of_lt hel
      · rw [show b = it by simpa using hb]; exact Nat.ne_of_lt hil
    rw [upd_ne hb2]
    exact (hf b hb).1
  done := by
    intro X hP hw hK hc i pins s σ H E I hf st hg
    subst hP hw hK
    obtain ⟨⟨old, he⟩, hit⟩ := st
    obtain ⟨xs, hq, hx⟩ := hg
    obtain ⟨its, rv, p, hz⟩ := I.tuple hq
    obtain ⟨f0, f1, f2, f3, f4, f5⟩ := hf it (by simp)
    have hl := rv.length
    have D' : Draws X.prog X.w X.A.in1 it [it, a] i (fun _ _ => True) (fun j h => j = i ∧ h.IsTupleIter it a i ∧ h.IsTuple a its.toArray) :=
      ⟨fun j h st => let ⟨o, ho, _⟩ := st.2.1; ⟨o, ho⟩, fun j h h' st hk => ⟨st.1, st.2.1.at fun o e => hk it (by simp) o e, let ⟨o, h1, h2⟩ := st.2.2; ⟨o, hk a (by simp) o h1, h2⟩⟩,
        fun j s Q E hj st hQ => absurd st.1 (Nat.ne_of_lt hj), fun s Q E st hE => nextOf_tuple_end (I.ok.hd hc) st.2.1 st.2.2 (by simp; omega) hE⟩
    exact wpAny_pyNext_enum_endD D' he ⟨rfl, hit, p⟩ fun h1 eb => ⟨rfl, I.turned (t' := s.toks) (fun b o hb q => eb b o hb q) f0 f1 f3 f4 f5⟩
  self := fun _ _ _ _ _ st h => by
    obtain ⟨⟨old, he⟩, _⟩ := st
    exact wpAny_pyIter_enum he h
noncomputable def iEnumA (K : PySem.W.Frag) (ta : TA) : TI := fun σ H R => ta σ H fun vs H1 => ∃ a, vs = [.ref a] ∧ (((∃ xs, SqL K H1 a xs) ∧ R (Ite K a) H1) ∨ ((∃ xs, SqT K H1 a xs) ∧ R (Itet K a) H1))
theorem pi_enumA {X : Cx} {l : Expr} {ta : TA} {p pos tp : Pos} {elts : List Expr} {kk} (hg : Gl X "enumerate") (hm : X.mg "enumerate" = none) (ha : PA X [l] ta) (hs : starEach [l] X.env = [(false, eval l X.env)] := by rfl) :
    PI X (.Tuple elts kk tp) (.Call (.Name "enumerate" p) [l] [] pos) (iEnumA X.K ta) := by
  intro pins s σ H R I h
  refine Call_ (ld_blt I hg hm boot_enumerate (PyProof.Rows.callWith_type1 (thn (ha pos pins s σ H _ I h) fun us s1 ⟨vs, H1, I1, r1, q1⟩ => ?_) hs rfl))
  obtain ⟨a, e, q⟩ := q1
  subst e
  obtain ⟨u, rfl, ru⟩ := vals1 r1
  cases ru
  have fp : ∀ b ∈ [s1.heap.objs.size + 1, s1.heap.objs.size], FpOk X pins H1 b := fun b hb => by
    have hb2 : s1.heap.objs.size ≤ b := by
      rcases List.mem_cons.mp hb with z | hb
      · rw [z]; exact Nat.le_succ _
      · rw [show b = s1.heap.objs.size by simpa using hb]; exact Nat.le_refl _
    exact I1.fpOk hb2 (I1.hok.fresh hb2)
  rcases q with ⟨⟨xs, hq⟩, q⟩ | ⟨⟨xs, hq⟩, q⟩
  · obtain ⟨its, rv, pl, hz⟩ := I1.list hq
    refine call_enumerate_list pl.isList fun h1 he hit hsz hk => ?_
    refine wpAny_pyIter_enum (s := { s1 with heap := h1 }) he ?_
    exact ⟨s1.heap.objs.size + 1, [s1.heap.objs.size + 1, s1.heap.objs.size], _, _, H1, rfl, I1.kept (t' := s1.toks) hk, turn_enum a _ _ (Nat.succ_ne_self _), ⟨⟨_, he⟩, hit⟩, fp, q⟩
  · obtain ⟨its, rv, pl, hz⟩ := I1.tuple hq
    refine call_enumerate_tuple pl fun h1 he hit hsz hk => ?_
    refine wpAny_pyIter_enum (s := { s1 with heap := h1 }) he ?_
    have hal : a < s1.heap.objs.size := by obtain ⟨_, z, _⟩ := pl; exact Heap.lt_size z
    exact ⟨s1.heap.objs.size + 1, [s1.heap.objs.size + 1, s1.heap.objs.size], _, _, H1, rfl, I1.kept (t' := s1.toks) hk, turn_enumT a _ _ (Nat.succ_ne_self _) (Nat.ne_of_lt hal) (Nat.ne_of_lt (Nat.lt_succ_of_lt hal)), ⟨⟨_, he⟩, hit⟩, fp, q⟩
noncomputable def enumFrom (i : Nat) : List D → List D
  | [] => []
  | d :: r => .tuple [.int (i : Nat), d] :: enumFrom (i + 1) r
theorem enumFrom_len : ∀ (ds : List D) (i : Nat), (enumFrom i ds).length = ds.length
  | [], _ => rfl
  | d :: r, i => by show (enumFrom (i + 1) r).length + 1 = r.length + 1; rw [enumFrom_len r]
theorem enumFrom_get : ∀ (ds : List D) (i j : Nat), (enumFrom i ds)[j]? = (ds[j]?).map fun d => .tuple [.int ((i + j : Nat) : Int), d]
  | [], _, _ => by simp [enumFrom]
  | d :: r, i, 0 => rfl
  | d :: r, i, j + 1 => by
    show (enumFrom (i + 1) r)[j]? = _
    rw [enumFrom_get r (i + 1) j, List.getElem?_cons_succ]
    have : i + 1 + j = i + (j + 1) := by omega
    rw [this]
section
variable {K : PySem.W.Frag} {E : XK} {B O O' : Own} {H0 H H' : Hp} {σ : L2.St} {ρ ρ' : PEnv} {v : V}
theorem it_enumL {a : Addr} {xs : List V} {ds : List D} (h : SqLO O K H a xs) (hd : DVs O K H xs ds) : ItOk K (Ite K a) O H (enumFrom 0 ds) := by
  intro O' H' e n
  have h' := h.ev e
  have hd' := hd.ev e
  rw [enumFrom_len]
  refine ⟨fun i hi => ?_, ⟨xs, h'.1.sq, by rw [hd.length]; exact Nat.le_refl _⟩⟩
  obtain ⟨x, hx, dx⟩ := hd'.get (List.getElem?_eq_getElem hi)
  refine ⟨⟨xs, x, h'.1.sq, hx⟩, ?_⟩
  rintro y H'' ⟨p, z, hp, rfl, hz, rfl⟩
  have hz' := hz xs h'.1.sq
  rw [hx] at hz'
  cases hz'
  refine ⟨same_upd hp _, .tuple [.int i, ds[i]], ?_, .tup ⟨SqT.of upd_same, fun q => absurd q (n p hp)⟩ (.cons (.int _) (.cons (dx.ev (Ev.grow (same_upd hp _))) .nil))⟩
  rw [enumFrom_get, List.getElem?_eq_getElem hi]
  simp
theorem it_enumT {a : Addr} {xs : List V} {ds : List D} (h : SqTO O K H a xs) (hd : DVs O K H xs ds) : ItOk K (Itet K a) O H (enumFrom 0 ds) := by
  intro O' H' e n
  have h' := h.ev e
  have hd' := hd.ev e
  rw [enumFrom_len]
  refine ⟨fun i hi => ?_, ⟨xs, h'.1, by rw [hd.length]; exact Nat.le_refl _⟩⟩
  obtain ⟨x, hx, dx⟩ := hd'.get (List.getElem?_eq_getElem hi)
  refine ⟨⟨xs, x, h'.1, hx⟩, ?_⟩
  rintro y H'' ⟨p, z, hp, rfl, hz, rfl⟩
  have hz' := hz xs h'.1
  rw [hx] at hz'
  cases hz'
  refine ⟨same_upd hp _, .tuple [.int i, ds[i]], ?_, .tup ⟨SqT.of upd_same, fun q => absurd q (n p hp)⟩ (.cons (.int _) (.cons (dx.ev (Ev.grow (same_upd hp _))) .nil))⟩
  rw [enumFrom_get, List.getElem?_eq_getElem hi]
  simp
noncomputable def iEnum (fa : FA) : FI := fun ρ => (fa ρ).bind fun a => (Res.ofO (toDs a.2 a.1)).bind fun b => match b.1 with
  | [d] => (Res.ofO (asSeq d)).bind fun ds => .ok (enumFrom 0 ds, b.2)
  | _ => .bad
theorem io_enum {ta : TA} {fa : FA} (h : AO K E ta fa) : IO K E (iEnumA K ta) (iEnum fa) := by
  intro B H0 O σ H ρ R' R w
  refine h B H0 O σ H ρ _ R (w.bind.imp fun a w1 O1 vs H1 e1 R1 p1 => ?_)
  obtain ⟨⟨ds, ρ2⟩, q, w1⟩ := w1.ofO
  obtain ⟨O2, e2, R2, dv⟩ := tos_ok R1 p1 q
  dsimp only at w1
  cases dv with
  | nil => exact w1.elim
  | cons h1 h2 =>
    cases h2 with
    | cons _ _ => exact w1.elim
    | nil =>
      obtain ⟨es, qs, w1⟩ := WR.ofO w1
      cases h1 with
      | tup h hs => cases qs; exact ⟨_, rfl, .inr ⟨⟨_, h.1⟩, w1 O2 _ H1 (e1.trans e2) R2 (it_enumT h hs)⟩⟩
      | lst h hs => cases qs; exact ⟨_, rfl, .inl ⟨⟨_, h.1.sq⟩, w1 O2 _ H1 (e1.trans e2) R2 (it_enumL h hs)⟩⟩
      | _ => cases qs
end
/-! ### all, any -/
theorem bools_get {bs : List Bool} {its : List Value} (r : Vals (bs.map V.bl) its) {i : Nat} {v : Value} (h : its[i]? = some v) : ∃ b, bs[i]? = some b ∧ v = .bool b := by
  have hl := r.length
  rw [List.length_map] at hl
  have hi : i < bs.length := by rw [hl]; exact (List.getElem?_eq_some_iff.mp h).1
  obtain ⟨u, hu, ru⟩ := r.get (i := i) (x := .bl bs[i]) (by rw [List.getElem?_map, List.getElem?_eq_getElem hi]; rfl)
  rw [h] at hu
  cases hu
  exact ⟨bs[i], List.getElem?_eq_getElem hi, ru⟩
theorem range_allB (bs : List Bool) : ((List.range bs.length).all fun i => (bs[i]?).getD true) = bs.all id := by
  rw [Bool.eq_iff_iff, List.all_eq_true, List.all_eq_true]
  constructor
  · intro h b hb
    obtain ⟨i, hi, e⟩ := List.mem_iff_getElem.mp hb
    have := h i (List.mem_range.mpr hi)
    rw [List.getElem?_eq_getElem hi, e] at this
    exact this
  · intro h i hi
    have hi := List.mem_range.mp hi
    rw [List.getElem?_eq_getElem hi]
    exact h _ (List.getElem_mem hi)
section
variable {X : Cx}
theorem call_all (hc : X.calm = true) : CallR X (.builtin "all") (fun xs H Q => ∃ (p : Addr) (bs : List Bool), xs = [.ref p] ∧ SqL X.K H p (bs.map V.bl) ∧ Q (.bl (bs.all id)) H) := by
  intro pins s σ H xs us Q I r h
  obtain ⟨l, bs, rfl, hq, q⟩ := h
  obtain ⟨u, rfl, ru⟩ := vals1 r
  cases ru
  obtain ⟨its, rv, pl, hz⟩ := I.list hq
  have hlen := rv.length
  rw [List.length_map] at hlen
  have hlt : l < s.heap.objs.size := by obtain ⟨_, _, e, _⟩ := pl; exact Heap.lt_size e
  refine call_all_walk (wpAny_pyIter_list pl.isList ?_)
  refine ⟨s.heap.objs.size, [s.heap.objs.size, l], [s.heap.objs.size], its.toArray.size, _, _, fun i => (bs[i]?).getD true, rfl, Walks.list (A := X.A.in1) (I.ok.hd hc) _ l (Nat.ne_of_lt hlt) its.toArray,
    ⟨⟨_, Heap.get?_push_size _ rfl, rfl, rfl⟩, pl.isList.push _⟩, fun i v s' Q' E' hP hQ => ?_, fun h' tk hk => ?_⟩
  · obtain ⟨b, e, rfl⟩ := bools_get rv (i := i) (v := v) (by simpa using hP)
    simp only [e, Option.getD_some] at hQ
    exact wpAny_truthy_bool hQ
  · rw [List.size_toArray, ← hlen, range_allB]
    refine ⟨.bl _, H, I.kept (t' := tk) fun b o e => hk b o (fun hm => ?_) (Heap.get?_push_of_some _ e), rfl, q⟩
    rw [List.mem_singleton.mp hm] at e
    exact Nat.lt_irrefl _ (Heap.lt_size e)
end
section
variable {K : PySem.W.Frag}
noncomputable def asBs : List D → Option (List Bool)
  | [] => some []
  | .bool b :: r => (asBs r).map (b :: ·)
  | _ => none
theorem asBs_ok {O : Own} {H : Hp} : ∀ {xs : List V} {ds : List D} {bs : List Bool}, DVs O K H xs ds → asBs ds = some bs → xs = bs.map V.bl
  | _, _, _, .nil, e => by cases e; rfl
  | _, _, bs, .cons (vs := vs) (ds := r) h t, e => by
    cases h with
    | bl b =>
      have e' : (asBs r).map (b :: ·) = some bs := e
      cases q : asBs r with
      | none => rw [q] at e'; cases e'
      | some bs' =>
        rw [q] at e'
        cases e'
        rw [asBs_ok t q]
        rfl
    | _ => cases e
noncomputable def allD : List D → Option RV
  | [.list ds] => (asBs ds).map fun bs => .fz (.bool (bs.all id))
  | _ => none
theorem cb_all : CbP K (fun xs H Q => ∃ (p : Addr) (bs : List Bool), xs = [.ref p] ∧ SqL K H p (bs.map V.bl) ∧ Q (.bl (bs.all id)) H) allD := by
  intro O H xs ds rv Q n hp e q
  unfold allD at e
  split at e
  · rename_i es
    cases qs : asBs es with
    | none => rw [qs] at e; cases e
    | some bs =>
      rw [qs] at e
      cases e
      cases hp with
      | cons h1 h2 =>
        cases h2
        obtain ⟨a, ys, rfl, h1, h2⟩ := DXl h1
        have := asBs_ok h2 qs
        subst this
        exact ⟨a, bs, rfl, h1.sq, q.at (.bl _)⟩
  · cases e
/-! ### sorted, of fewer than 64 ints -/
theorem dvs_ints {O : Own} {H : Hp} (ns : List Int) : DVs O K H (ns.map V.int) (ns.map .int) := by
  induction ns with
  | nil => exact .nil
  | cons n r ih => exact .cons (.int n) ih
/-! ### isinstance with a built-in class -/
end
end L3
namespace L3
open PySem PySem.Spec PyProof.Rows L2
/-! ### isinstance -/
noncomputable def TyA (K : PySem.W.Frag) (H : Hp) (x : V) (t : String) : Prop := match x with
  | .non => t = "NoneType"
  | .bl _ => t = "bool"
  | .int _ => t = "int"
  | .str _ => t = "str"
  | .ref a => (t = "list" ∧ ∃ xs, SqL K H a xs) ∨ (t = "tuple" ∧ ∃ xs, SqT K H a xs)
  | _ => False
noncomputable def rIsiA (K : PySem.W.Frag) : List V → Hp → VK → Prop := fun xs H Q => ∃ x n t b, xs = [x, .ty n] ∧ TyA K H x t ∧ PySem.W.kitOne K (.type t) (.type n) = some b ∧ Q (.bl b) H
theorem call_isiA {X : Cx} : CallR X (.builtin "isinstance") (rIsiA X.K) := by
  intro pins s σ H xs us Q I r h
  obtain ⟨x, n, t, b, rfl, ty, e, q⟩ := h
  obtain ⟨u, w', rfl, rx, rn⟩ := vals2 r
  obtain rfl : w' = Value.type n := rn
  have fin : ∀ tk, EP X pins σ Q (.bool b) { s with toks := tk } := fun tk => ⟨.bl b, H, I.tok tk, rfl, q⟩
  cases x with
  | non => cases (show t = "NoneType" from ty); cases (show u = Value.none from rx); exact PySem.W.kia_one PySem.W.kitx_none I.kIn True.intro e (fun z => nomatch z) fin
  | bl y => cases (show t = "bool" from ty); cases (show u = Value.bool y from rx); exact PySem.W.kia_one PySem.W.kitx_bool I.kIn True.intro e (fun z => nomatch z) fin
  | int i => cases (show t = "int" from ty); obtain ⟨t, q⟩ := (show ∃ t, u = Value.int i t from rx); cases q; exact PySem.W.kia_one PySem.W.kitx_int I.kIn True.intro e (fun z => nomatch z) fin
  | str y => cases (show t = "str" from ty); obtain ⟨t, q⟩ := (show ∃ t, u = Value.str y t from rx); cases q; exact PySem.W.kia_one PySem.W.kitx_str I.kIn True.intro e (fun z => nomatch z) fin
  | ref a =>
    cases (show u = Value.ref a from rx)
    rcases ty with ⟨rfl, xs, h⟩ | ⟨rfl, xs, h⟩
    · obtain ⟨its, r, ⟨o, k, h1, h2, _⟩, _⟩ := I.list h
      exact PySem.W.kia_one PySem.W.kitx_list I.kIn ⟨_, h1, h2⟩ e (fun z => nomatch z) fin
    · obtain ⟨its, r, ⟨o, h1, h2, _⟩, _⟩ := I.tuple h
      exact PySem.W.kia_one PySem.W.kitx_tuple I.kIn ⟨o, h1, h2⟩ e (fun z => nomatch z) fin
  | _ => exact (show False from ty).elim
section
variable {K : PySem.W.Frag} {E : XK} {B O O' : Own} {H0 H H' : Hp} {σ : L2.St} {ρ ρ' : PEnv} {v : V}
noncomputable def tyOf : D → Option String
  | .none => some "NoneType"
  | .bool _ => some "bool"
  | .int _ => some "int"
  | .str _ => some "str"
  | .list _ => some "list"
  | .tuple _ => some "tuple"
  | .dict _ => none
noncomputable def isiT (n t : String) : Bool := n == t || (n == "int" && t == "bool")
theorem kit_all {n t : String} (hn : n = "int" ∨ n = "bool" ∨ n = "str" ∨ n = "list" ∨ n = "tuple") {d : D} (ht : tyOf d = some t) : PySem.W.kitOne K (.type t) (.type n) = some (isiT n t) := by
  cases d <;> (cases ht; try (rcases hn with rfl | rfl | rfl | rfl | rfl <;> rfl))
theorem ty_ok {x : V} {d : D} {t : String} (h : DX O K H x d) (e : tyOf d = some t) : TyA K H x t := by
  cases d with
  | none => cases e; cases h; rfl
  | bool b => cases e; cases h; rfl
  | int b => cases e; cases h; rfl
  | str b => cases e; cases h; rfl
  | dict b => cases e
  | list ds => cases e; obtain ⟨a, xs, rfl, h1, _⟩ := DXl h; exact .inl ⟨rfl, xs, h1.sq⟩
  | tuple ds => cases e; obtain ⟨a, xs, rfl, h1, _⟩ := DXt h; exact .inr ⟨rfl, xs, h1.1⟩
noncomputable def pIsi (n : String) (fa : FE) : FE := fun ρ => (fa ρ).bind fun a => (Res.ofO (rdD a.2 a.1)).bind fun d => (Res.ofO (tyOf d)).bind fun t => .ok (.fz (.bool (isiT n t)), a.2)
theorem eo_isi {n : String} {ta : TE} {fa : FE} (hn : n = "int" ∨ n = "bool" ∨ n = "str" ∨ n = "list" ∨ n = "tuple") (ha : EO K E ta fa) : EO K E (tCB (rIsiA K) (tCons ta (tCons (tC (.ty n)) tNil))) (pIsi n fa) := by
  intro B H0 O σ H ρ Q R w
  refine ha B H0 O σ H ρ _ R (w.bind.imp fun a w1 O1 x H1 e1 R1 p1 => ?_)
  obtain ⟨d, q, w1⟩ := w1.ofO
  obtain ⟨t, qt, w1⟩ := w1.ofO
  exact ⟨x, n, t, isiT n t, rfl, ty_ok (rd_ok R1 p1 q) qt, kit_all hn qt, w1 O1 _ H1 e1 R1 (.bl _)⟩
end
section
variable {K : PySem.W.Frag}
noncomputable def intD : List D → Option RV
  | [.int i] => some (.fz (.int i))
  | [.bool k] => some (.fz (.int (if k then 1 else 0)))
  | _ => none
theorem cb_int : CbP K (fun xs H Q => (∃ i, xs = [.int i] ∧ Q (.int i) H) ∨ ∃ k, xs = [.bl k] ∧ Q (.int (if k then 1 else 0)) H) intD := by
  intro O H xs ds rv Q n hp e q
  unfold intD at e
  split at e
  · cases e
    cases hp with
    | cons h1 h2 => cases h2; cases h1; exact .inl ⟨_, rfl, q.at (.int _)⟩
  · cases e
    cases hp with
    | cons h1 h2 => cases h2; cases h1; exact .inr ⟨_, rfl, q.at (.int _)⟩
  · cases e
end
/-! ### the law's own call -/
theorem law_callX {P : Program} {w : World} {K : PySem.W.Frag} {mg mb : Str → Option Value} {k : Nat} {fa a : Addr} {fd : FuncData} {x : Str} {F : FN} {s₁ : Shared} {vs : List Value} {ns : List Int}
    (KX : K.In s₁.heap) (hns : s₁.heap.Ns mainGlobals mg) (hb : s₁.heap.Ns builtinsNs mb) (hbb : ∀ x : Str, x ≠ "__name__" → mb x = bootBuiltins x) (hlim : s₁.heap.NoLimit) (hg : s₁.gens = #[])
    (ha : s₁.heap.get? a = some { cls := .type "list", data := .seq vs.toArray }) (hi : IntsAre vs ns) (hl : ns.length ≤ sizeLine) (hr : Room k callerA)
    (FF : ∀ base : Heap, K.In base → base.Ns mainGlobals mg → FnOk P w K mg base CX0 k fa fd [x] (spP K 1 F)) (hbind : ∀ (s : Shared) (u : Value), BindsTo s fd ⟨[u], []⟩ [(x, u)])
    (hF : F [.list (ns.map .int)] = .ok (.fz (.bool true))) :
    codeAny (model P w) callerA (.call (.ref fa) ⟨[.ref a], []⟩) (fun r s' => r = .ok (.ret (.bool true)) ∧ OldK s₁.heap s'.heap ∧ s'.os = s₁.os ∧ AllBare s'.gens) s₁ := by
  refine law_call (sp := fun vs H Q E => spP K 1 F vs H Q E ∨ (vs.length = 1 ∧ False)) KX hns hb hbb hlim hg ha hi hl hr (fun base k1 k2 => (FF base k1 k2).imp fun vs H Q E h => ?_) hbind (fun H hO hS => ?_) fun _ _ _ h => h
  · rcases h with h | h
    · exact h
    · exact h.2.elim
  · refine .inl ⟨rfl, noO, [.list (ns.map .int)], fun a z => z.elim, .cons (.lst ⟨?_, fun z => z.elim⟩ (dvs_ints ns)) .nil, ?_⟩
    · rcases hS with h | ⟨o, its, n, h1, h2, h3, h4, h5, h6⟩
      · exact .inl h
      · have e := KX a o h1
        rw [ha] at e
        cases e
        cases h4
        exact .inr ⟨vs, 0, h1, by rw [List.length_map]; exact hl, by simpa using h6⟩
    · rw [hF]
      exact fun v H' s dv => by cases dv; rfl
theorem walkX {l : PySem.W.OpenLaw} {n k : Nat} {q : Program} {loose : List Str} {XP : (Str → Option Value) → Heap → Prop} {YP : World → Heap → Prop} {d : DefRec} {K : Params → PySem.W.Frag} {F : FN} {x : Str}
    (hn : l.most = some n) (hn2 : n ≤ sizeLine) (hdf : d.params.defaults = []) (hr : Room k callerA)
    (hY : ∀ (w : World) (h : Heap), YP w h → (K w.params).In h)
    (FF : ∀ (w : World) (mg : Str → Option Value) (fa : Addr) (h : Heap), (K w.params).In h → h.Ns mainGlobals mg → mg d.name = some (.ref fa) →
      ∃ fd : FuncData, (∀ (s : Shared) (u : Value), BindsTo s fd ⟨[u], []⟩ [(x, u)]) ∧ ∀ base : Heap, (K w.params).In base → base.Ns mainGlobals mg → FnOk l.prog w (K w.params) mg base CX0 k fa fd [x] (spP (K w.params) 1 F))
    (hF : ∀ ns : List Int, ns.length ≤ n → F [.list (ns.map .int)] = .ok (.fz (.bool true))) :
    PySem.W.WalkO q loose XP YP l.row.toRowW d [] (fun f vs => PySem.call f vs) := by
  refine Att.attach_call hn hdf fun w s₀ s₁ mg mb fa o pm cd doc a vs ns G Y ho hd hcd hmg hobj hints hlen hg => ?_
  have KX := hY w _ Y
  obtain ⟨fd, hb, hFF⟩ := FF w mg fa _ KX G.T.g hmg
  exact law_callX KX G.T.g G.T.b G.T.builtins G.T.nolimit hg hobj hints (Nat.le_trans hlen hn2) hr hFF hb (hF ns hlen)
theorem okF {P : Program} {w : World} {K : PySem.W.Frag} {mg : Str → Option Value} {base : Heap} {x qual : Str} {st : Stmt} {f : Addr} {fd : FuncData} {N ps : List Str} {k n m : Nat} {g : FS} {FF : FN} (F : Fun K x qual st f fd) (S : FnScope N ps (defScope st)) (hn : ps.length = n) (hm : N.length = m) (hF : FF = runF m g)
    (hbody : ∀ (cdv : Value) (A : Around) (outer : List Env) (s : Shared) (H : Hp) (E : XK), Room k (A.deeper (PyProof.Rows.envOfC qual (defScope st) s.heap.objs.size f cdv)) →
      ∃ t, PSs (cxOf CX0 P w K mg base N qual (defScope st) f cdv A outer s H E).nox (defBody st) t ∧ SO K E t g) : FnOk P w K mg base CX0 (k + 1) f fd ps (spP K n FF) := by
  subst hF hm
  exact okP F S hn hbody
/-- a def that is called, by its function -/
noncomputable abbrev CalP (P : Program) (w : World) (K : PySem.W.Frag) (mg : Str → Option Value) (base : Heap) (k : Nat) (x : Str) (ps : List Str) (n : Nat) (F : FN) : Prop := CalOk P w K mg base k x ps (spP K n F)
end L3
namespace L3
open PySem L2
/-! ## A KIT for the functions of data -/
noncomputable abbrev nd (n : Nat) : D := .int (n : Int)
noncomputable def nds (ns : List Nat) : List D := ns.map nd
theorem nds_len (ns : List Nat) : (nds ns).length = ns.length := by unfold nds; rw [List.length_map]
theorem nds_get {ns : List Nat} {i : Nat} {d : D} (h : (nds ns)[i]? = some d) : ∃ n, ns[i]? = some n ∧ d = nd n := by
  unfold nds at h
  rw [List.getElem?_map] at h
  cases e : ns[i]? with
  | none => rw [e] at h; cases h
  | some n => rw [e] at h; exact ⟨n, rfl, (Option.some.inj h).symm⟩
/-! rows for the rewriting -/
theorem ofO_some {α : Type} (a : α) : Res.ofO (some a) = .ok a := rfl
theorem noEr_okk {α : Type} (a : α) : noEr (Res.ok a) = .ok a := rfl
theorem settle_fz (d : D) : settle (.fz d) = .fz d := rfl
theorem settle_ow (ds : List D) : settle (.ow ds) = .fz (.list ds) := rfl
theorem settle_pl (i : Nat) : settle (.pl i) = .pl i := rfl
theorem rdD_fz (ρ : PEnv) (d : D) : rdD ρ (.fz d) = some d := rfl
theorem rdD_ow (ρ : PEnv) (ds : List D) : rdD ρ (.ow ds) = some (.list ds) := rfl
theorem rdD_pl (ρ : PEnv) (i : Nat) : rdD ρ (.pl i) = rdS ρ[i]? := rfl
theorem rdS_fz (d : D) : rdS (some (some (.fz d))) = some d := rfl
theorem rdS_ow (ds : List D) : rdS (some (some (.ow ds))) = some (.list ds) := rfl
theorem toD_fz (ρ : PEnv) (d : D) : toD ρ (.fz d) = some (d, ρ) := rfl
theorem toD_ow (ρ : PEnv) (ds : List D) : toD ρ (.ow ds) = some (.list ds, ρ) := rfl
theorem toD_pl (ρ : PEnv) (i : Nat) : toD ρ (.pl i) = toS ρ i ρ[i]? := rfl
theorem toS_fz (ρ : PEnv) (i : Nat) (d : D) : toS ρ i (some (some (.fz d))) = some (d, ρ) := rfl
theorem toS_ow (ρ : PEnv) (i : Nat) (ds : List D) : toS ρ i (some (some (.ow ds))) = some (.list ds, ρ.set i (some (.fz (.list ds)))) := rfl
theorem var_eq (i : Nat) (ρ : PEnv) : pVar i ρ = pVarS ρ i ρ[i]? := rfl
theorem var_fz (ρ : PEnv) (i : Nat) (d : D) : pVarS ρ i (some (some (.fz d))) = .ok (.fz d, ρ) := rfl
theorem var_ow (ρ : PEnv) (i : Nat) (ds : List D) : pVarS ρ i (some (some (.ow ds))) = .ok (.pl i, ρ) := rfl
theorem ret_fz (ρ : PEnv) (d : D) : retV ρ (.fz d) = some (.fz d) := rfl
theorem ret_ow (ρ : PEnv) (ds : List D) : retV ρ (.ow ds) = some (.ow ds) := rfl
noncomputable def retS : Option (Option PV) → Option RV
  | some (some (.fz d)) => some (.fz d)
  | some (some (.ow ds)) => some (.ow ds)
  | _ => none
theorem ret_pl (ρ : PEnv) (i : Nat) : retV ρ (.pl i) = retS ρ[i]? := by
  cases q : ρ[i]? with
  | none => unfold retV; dsimp only; rw [q]; rfl
  | some o =>
    cases o with
    | none => unfold retV; dsimp only; rw [q]; rfl
    | some x => unfold retV; dsimp only; rw [q]; cases x <;> rfl
theorem retS_fz (d : D) : retS (some (some (.fz d))) = some (.fz d) := rfl
theorem retS_ow (ds : List D) : retS (some (some (.ow ds))) = some (.ow ds) := rfl
theorem asOw_some (ds : List D) : asOw (some (some (.ow ds))) = some ds := rfl
theorem pv_fz (d : D) : RV.pv (.fz d) = .fz d := rfl
theorem pv_ow (ds : List D) : RV.pv (.ow ds) = .ow ds := rfl
theorem gN_fz (i : Nat) (d : D) (ρ : PEnv) : gN i (.fz d) ρ = .ok (ρ.set i (some (.fz d))) := rfl
theorem gN_ow (i : Nat) (ds : List D) (ρ : PEnv) : gN i (.ow ds) ρ = .ok (ρ.set i (some (.ow ds))) := rfl
theorem gN_pl (i j : Nat) (ρ : PEnv) : gN i (.pl j) ρ = (Res.ofO (toD ρ (.pl j))).bind fun b => .ok (b.2.set i (some (.fz b.1))) := rfl
theorem rdDs_nil (ρ : PEnv) : rdDs ρ [] = some [] := rfl
theorem rdDs_cons {ρ : PEnv} {p : PV} {r : List PV} {d : D} (h : rdD ρ p = some d) : rdDs ρ (p :: r) = (rdDs ρ r).map (d :: ·) := by
  show (match rdD ρ p with | some d => (match rdDs ρ r with | some ds => some (d :: ds) | none => none) | none => none) = _
  rw [h]
  cases rdDs ρ r <;> rfl
theorem toDs_nil (ρ : PEnv) : toDs ρ [] = some ([], ρ) := rfl
theorem toDs_fz (ρ : PEnv) (d : D) (r : List PV) : toDs ρ (.fz d :: r) = (toDs ρ r).map fun x => (d :: x.1, x.2) := by
  show (match toD ρ (.fz d) with | some (d, ρ1) => (match toDs ρ1 r with | some (ds, ρ2) => some (d :: ds, ρ2) | none => none) | none => none) = _
  rw [toD_fz]
  dsimp only
  cases toDs ρ r <;> rfl
theorem rdDs_fz (ρ : PEnv) (d : D) (r : List PV) : rdDs ρ (.fz d :: r) = (rdDs ρ r).map (d :: ·) := rdDs_cons rfl
theorem toDs_pl (ρ : PEnv) (i : Nat) (r : List PV) : toDs ρ (.pl i :: r) = (toS ρ i ρ[i]?).bind fun y => (toDs y.2 r).map fun x => (y.1 :: x.1, x.2) := by
  show (match toD ρ (.pl i) with | some (d, ρ1) => (match toDs ρ1 r with | some (ds, ρ2) => some (d :: ds, ρ2) | none => none) | none => none) = _
  rw [toD_pl]
  cases toS ρ i ρ[i]? with
  | none => rfl
  | some y =>
    obtain ⟨d, ρ1⟩ := y
    dsimp only
    show _ = (toDs ρ1 r).map fun x => (d :: x.1, x.2)
    cases toDs ρ1 r <;> rfl
theorem rdDs_pl (ρ : PEnv) (i : Nat) (r : List PV) : rdDs ρ (.pl i :: r) = (rdS ρ[i]?).bind fun d => (rdDs ρ r).map (d :: ·) := by
  cases q : rdS ρ[i]? with
  | none =>
    show (match rdD ρ (.pl i) with | some d => (match rdDs ρ r with | some ds => some (d :: ds) | none => none) | none => none) = _
    rw [rdD_pl, q]
    rfl
  | some d => rw [rdDs_cons (show rdD ρ (.pl i) = some d from q)]; rfl
theorem captL_nil (ρ : PEnv) : captL ρ [] = some ([], ρ) := rfl
theorem captL_cons (ρ : PEnv) (i : Nat) (r : List Nat) : captL ρ (i :: r) = (toS ρ i ρ[i]?).bind fun y => (captL y.2 r).map fun x => (y.1 :: x.1, x.2) := by
  show (match toD ρ (.pl i) with | some (d, ρ1) => (match captL ρ1 r with | some (ds, ρ2) => some (d :: ds, ρ2) | none => none) | none => none) = _
  rw [toD_pl]
  cases toS ρ i ρ[i]? with
  | none => rfl
  | some y =>
    obtain ⟨d, ρ1⟩ := y
    dsimp only
    show _ = (captL ρ1 r).map fun x => (d :: x.1, x.2)
    cases captL ρ1 r <;> rfl
theorem asI_int (i : Int) : asI (.int i) = some i := rfl
theorem asB_bool (b : Bool) : asB (.bool b) = some b := rfl
theorem asT_tup (ds : List D) : asT (.tuple ds) = some ds := rfl
theorem asSeq_tup (ds : List D) : asSeq (.tuple ds) = some ds := rfl
theorem asSeq_lst (ds : List D) : asSeq (.list ds) = some ds := rfl
theorem lenD_tup (ds : List D) : lenD [.tuple ds] = some (.fz (nd ds.length)) := rfl
theorem lenD_lst (ds : List D) : lenD [.list ds] = some (.fz (nd ds.length)) := rfl
theorem keepF_fz (d : D) : keepF (some (.fz d)) = some (.fz d) := rfl
theorem keepF_ow (ds : List D) : keepF (some (.ow ds)) = none := rfl
theorem keepF_none : keepF none = none := rfl
theorem obind_some {α β : Type} (a : α) (f : α → Option β) : (some a).bind f = f a := rfl
theorem tr_ltt (i j : Int) : ltD (.int i) (.int j) = some (.fz (.bool (decide (i < j)))) := rfl
theorem tr_le (i j : Int) : leD (.int i) (.int j) = some (.fz (.bool (decide (i ≤ j)))) := rfl
theorem tr_gt (i j : Int) : gtD (.int i) (.int j) = some (.fz (.bool (decide (j < i)))) := rfl
theorem tr_ge (i j : Int) : geD (.int i) (.int j) = some (.fz (.bool (decide (j ≤ i)))) := rfl
theorem tr_add (i j : Int) : addD (.int i) (.int j) = some (.fz (.int (i + j))) := rfl
theorem tr_sub (i j : Int) : subD (.int i) (.int j) = some (.fz (.int (i - j))) := rfl
theorem tr_mod {i j : Int} (h : 0 < j) : modD (.int i) (.int j) = some (.fz (.int (i % j))) := by
  show (if posC i j = true then _ else _) = _
  rw [if_pos (show posC i j = true from decide_eq_true h)]
theorem tr_div {i j : Int} (h : 0 < j ∧ j < 2 ^ 128) : divD (.int i) (.int j) = some (.fz (.int (i / j))) := by
  show (if divC i j = true then _ else _) = _
  rw [if_pos (show divC i j = true from decide_eq_true h)]
theorem tr_mulL {i j : Int} (h : -(2 ^ 64) < i ∧ i < 2 ^ 64) : mulD (.int i) (.int j) = some (.fz (.int (i * j))) := by
  show (if (small64 i || small64 j) = true then _ else _) = _
  rw [if_pos (by rw [show small64 i = true from decide_eq_true h, Bool.true_or])]
theorem tr_mulR {i j : Int} (h : -(2 ^ 64) < j ∧ j < 2 ^ 64) : mulD (.int i) (.int j) = some (.fz (.int (i * j))) := by
  show (if (small64 i || small64 j) = true then _ else _) = _
  rw [if_pos (by rw [show small64 j = true from decide_eq_true h, Bool.or_true])]
theorem rng1_ok {j : Int} (h : small62 j) : rng1 [.int j] = some (intsFrom 0 j.toNat) := by
  show (if small62 j then _ else _) = _
  rw [if_pos h]
theorem from_nds (n : Nat) : intsFrom 0 n = nds (List.range n) := by
  unfold intsFrom nds
  apply List.map_congr_left
  intro k _
  rw [Int.zero_add]
theorem rng1_nd {n : Nat} (h : n ≤ 1000000) : rng1 [nd n] = some (nds (List.range n)) := by
  rw [rng1_ok (by unfold small62; omega), from_nds, Int.toNat_natCast]
theorem seq_nx {f g : FS} {ρ ρ1 : PEnv} (h : f ρ = .ok (.nx ρ1)) : sSeq f g ρ = g ρ1 := by unfold sSeq; rw [h]; rfl
theorem seq_rt {f g : FS} {ρ : PEnv} {rv : RV} (h : f ρ = .ok (.rt rv)) : sSeq f g ρ = .ok (.rt rv) := by unfold sSeq; rw [h]; rfl
theorem for_of {fi : FI} {gt : FG} {b : FS} {ρ ρ1 : PEnv} {ds : List D} (h : fi ρ = .ok (ds, ρ1)) : sFor fi gt b ρ = forP gt b ds ρ1 := by unfold sFor; rw [h]; rfl
theorem tr_pow {i : Int} {j : Nat} (h : j ≤ 1000000 ∧ i.natAbs < 2 ^ 64) : powD (.int i) (nd j) = some (.fz (.int (i ^ j))) := by
  show (if powC i (j : Int) = true then some (RV.fz (.int (i ^ ((j : Nat) : Int).toNat))) else none) = _
  rw [if_pos (by unfold powC; exact decide_eq_true ⟨by omega, by omega, h.2⟩), Int.toNat_natCast]
theorem pow18 : powD (.int 10) (.int 18) = some (.fz (.int (10 ^ 18))) := tr_pow (j := 18) ⟨by decide, by decide⟩
/-! loops -/
/-- one turn of a comprehension -/
noncomputable def compT (gt : FG) (ft : FT) (fe : FE) (d : D) (ρ : PEnv) : Res (Option D × PEnv) := (gt (.fz d) ρ).bind fun ρ1 => (ft ρ1).bind fun b => if b.1 = true then (fe b.2).bind fun a => (Res.ofO (toD a.2 a.1)).bind fun x => .ok (some x.1, forget x.2) else .ok (none, forget b.2)
theorem compP_step {gt : FG} {ft : FT} {fe : FE} {d : D} {r : List D} {ρ ρ' : PEnv} {acc : List D} {o : Option D} (h : compT gt ft fe d ρ = .ok (o, ρ')) (hl : acc.length < 1000000) : compP gt ft fe (d :: r) ρ acc = compP gt ft fe r ρ' (acc ++ o.toList) := by
  unfold compT at h
  show (gt (.fz d) ρ).bind _ = _
  cases q1 : gt (.fz d) ρ with
  | er x => rw [q1] at h; cases h
  | bad => rw [q1] at h; cases h
  | ok ρ1 =>
    rw [q1, Res.bind_ok] at h
    rw [Res.bind_ok]
    cases q2 : ft ρ1 with
    | er x => rw [q2] at h; cases h
    | bad => rw [q2] at h; cases h
    | ok b =>
      obtain ⟨b, ρ2⟩ := b
      rw [q2, Res.bind_ok] at h
      rw [Res.bind_ok]
      cases b with
      | false =>
        rw [if_neg Bool.false_ne_true] at h ⊢
        cases h
        rw [Option.toList_none, List.append_nil]
      | true =>
        rw [if_pos rfl] at h ⊢
        cases q3 : fe ρ2 with
        | er x => rw [q3] at h; cases h
        | bad => rw [q3] at h; cases h
        | ok a =>
          rw [q3, Res.bind_ok] at h
          rw [Res.bind_ok]
          cases q4 : toD a.2 a.1 with
          | none => rw [q4] at h; cases h
          | some x =>
            rw [q4] at h
            cases h
            show (if acc.length < 1000000 then _ else _) = _
            rw [if_pos hl]
            rfl
theorem compP_ok {gt : FG} {ft : FT} {fe : FE} (I : PEnv → Prop) (f : D → Option D) : ∀ (ds : List D) (ρ : PEnv) (acc : List D), I ρ → acc.length + ds.length ≤ 1000000 → (∀ d ∈ ds, ∀ ρ, I ρ → ∃ ρ', compT gt ft fe d ρ = .ok (f d, ρ') ∧ I ρ') → compP gt ft fe ds ρ acc = .ok (acc ++ ds.filterMap f)
  | [], ρ, acc, _, _, _ => by show Res.ok acc = _; simp
  | d :: r, ρ, acc, h0, hl, hs => by
    obtain ⟨ρ', h1, h2⟩ := hs d List.mem_cons_self ρ h0
    rw [List.length_cons] at hl
    rw [compP_step h1 (by omega), compP_ok I f r ρ' _ h2 (by
      have : (f d).toList.length ≤ 1 := by cases f d <;> simp
      rw [List.length_append]; omega) fun d' hd' => hs d' (List.mem_cons_of_mem _ hd')]
    cases q : f d with
    | none => rw [List.filterMap_cons_none q, Option.toList_none, List.append_nil]
    | some y => rw [List.filterMap_cons_some q, Option.toList_some, List.append_assoc]; rfl
theorem comp_eq {gt : FG} {ft : FT} {fe : FE} {ds : List D} {ρ : PEnv} (I : PEnv → Prop) (f : D → Option D) (h0 : I ρ) (hl : ds.length ≤ 1000000) (hs : ∀ d ∈ ds, ∀ ρ, I ρ → ∃ ρ', compT gt ft fe d ρ = .ok (f d, ρ') ∧ I ρ') : noEr (compP gt ft fe ds ρ []) = .ok (ds.filterMap f) := by
  rw [compP_ok I f ds ρ [] h0 (by simpa using hl) hs]
  rfl
/-! numbers -/
theorem band_nd (a b : Nat) : Builtin.bitAnd (a : Int) (b : Int) = ((a &&& b : Nat) : Int) := by
  rw [PyProof.Rows.bitAnd_pp (Int.natCast_nonneg _) (Int.natCast_nonneg _), Int.toNat_natCast, Int.toNat_natCast]
theorem bor_nd (a b : Nat) : Builtin.bitOr (a : Int) (b : Int) = ((a ||| b : Nat) : Int) := by
  have nn : ∀ x : Nat, Builtin.bitNot (x : Int) = -(x : Int) - 1 := fun x => by simp [Builtin.bitNot] <;> omega
  have nb : ∀ x : Int, Builtin.bitNot (Builtin.bitNot x) = x := fun x => by simp [Builtin.bitNot] <;> omega
  show Builtin.bitNot (Builtin.bitAnd (Builtin.bitNot (a : Int)) (Builtin.bitNot (b : Int))) = _
  rw [PyProof.Rows.bitAnd_nn (by rw [nn]; omega) (by rw [nn]; omega), nb, nb, nb, Int.toNat_natCast, Int.toNat_natCast]
theorem bandD_nd (a b : Nat) : bandD (nd a) (nd b) = some (.fz (nd (a &&& b))) := by show some (RV.fz (.int (Builtin.bitAnd (a : Int) (b : Int)))) = _; rw [band_nd]
theorem borD_nd (a b : Nat) : borD (nd a) (nd b) = some (.fz (nd (a ||| b))) := by show some (RV.fz (.int (Builtin.bitOr (a : Int) (b : Int)))) = _; rw [bor_nd]
theorem shr_nd (a c : Nat) : shrD (nd a) (nd c) = some (.fz (nd (a / 2 ^ c))) := by
  show (if nnC a (c : Int) = true then some (RV.fz (.int ((a : Int) / 2 ^ ((c : Nat) : Int).toNat))) else none) = _
  rw [if_pos (by unfold nnC; exact decide_eq_true (by omega)), Int.toNat_natCast]
  simp
theorem dec_nd (a b : Nat) : decide ((a : Int) = (b : Int)) = decide (a = b) := by
  by_cases h : a = b
  · rw [decide_eq_true h, decide_eq_true (by rw [h])]
  · rw [decide_eq_false h, decide_eq_false (by omega)]
theorem eqv_nd (a b : Nat) : PyData.eqv (nd a) (nd b) = decide (a = b) := dec_nd a b
theorem eqD_int (a b : Int) : eqD (.int a) (.int b) = some (.fz (.bool (decide (a = b)))) := by
  rfl
theorem neD_int (a b : Int) : neD (.int a) (.int b) = some (.fz (.bool (!decide (a = b)))) := by
  rfl
theorem eqD_bool (a b : Bool) : eqD (.bool a) (.bool b) = some (.fz (.bool (decide (a = b)))) := by cases a <;> cases b <;> rfl
theorem neD_bool (a b : Bool) : neD (.bool a) (.bool b) = some (.fz (.bool (!decide (a = b)))) := by cases a <;> cases b <;> rfl
theorem eqD_nd (a b : Nat) : eqD (nd a) (nd b) = some (.fz (.bool (decide (a = b)))) := by
  rw [eqD_int, dec_nd]
theorem neD_nd (a b : Nat) : neD (nd a) (nd b) = some (.fz (.bool (!decide (a = b)))) := by
  rw [neD_int, dec_nd]
theorem lay_nds : ∀ ns : List Nat, PyData.canLayAll0 (nds ns) = true
  | [] => rfl
  | n :: r => by
    show (PyData.canLay0 (nd n) && PyData.canLayAll0 (nds r)) = true
    rw [lay_nds r]; rfl
theorem dep_nds : ∀ ns : List Nat, PyData.depthAll (nds ns) = 0
  | [] => rfl
  | n :: r => by
    show max (PyData.depth (nd n)) (PyData.depthAll (nds r)) = 0
    rw [dep_nds r]; rfl
theorem eqv_nds : ∀ xs ys : List Nat, PyData.eqvAll (nds xs) (nds ys) = decide (xs = ys)
  | [], [] => rfl
  | [], _ :: _ => rfl
  | _ :: _, [] => rfl
  | n :: r, m :: t => by
    show (PyData.eqv (nd n) (nd m) && PyData.eqvAll (nds r) (nds t)) = _
    rw [eqv_nds r t, eqv_nd]
    rw [Bool.eq_iff_iff]
    simp
theorem ok_tup (ns : List Nat) : okD (.tuple (nds ns)) = true := by
  show (PyData.canLayAll0 (nds ns) && decide (PyData.depthAll (nds ns) + 1 ≤ 64)) = true
  rw [lay_nds, dep_nds]; rfl
theorem ok_lst (ns : List Nat) : okD (.list (nds ns)) = true := by
  show (PyData.canLayAll0 (nds ns) && decide (PyData.depthAll (nds ns) + 1 ≤ 64)) = true
  rw [lay_nds, dep_nds]; rfl
theorem eqD_tup (xs ys : List Nat) : eqD (.tuple (nds xs)) (.tuple (nds ys)) = some (.fz (.bool (decide (xs = ys)))) := by
  unfold eqD
  rw [ok_tup, show PyData.canLay0 (.tuple (nds ys)) = true from lay_nds ys, Bool.and_self, if_pos rfl, show PyData.eqv (.tuple (nds xs)) (.tuple (nds ys)) = _ from eqv_nds xs ys]
theorem neD_tup (xs ys : List Nat) : neD (.tuple (nds xs)) (.tuple (nds ys)) = some (.fz (.bool (!decide (xs = ys)))) := by
  unfold neD
  rw [ok_tup, show PyData.canLay0 (.tuple (nds ys)) = true from lay_nds ys, Bool.and_self, if_pos rfl, show PyData.eqv (.tuple (nds xs)) (.tuple (nds ys)) = _ from eqv_nds xs ys]
theorem eqD_lst (xs ys : List Nat) : eqD (.list (nds xs)) (.list (nds ys)) = some (.fz (.bool (decide (xs = ys)))) := by
  unfold eqD
  rw [ok_lst, show PyData.canLay0 (.list (nds ys)) = true from lay_nds ys, Bool.and_self, if_pos rfl, show PyData.eqv (.list (nds xs)) (.list (nds ys)) = _ from eqv_nds xs ys]
theorem neD_lst (xs ys : List Nat) : neD (.list (nds xs)) (.list (nds ys)) = some (.fz (.bool (!decide (xs = ys)))) := by
  unfold neD
  rw [ok_lst, show PyData.canLay0 (.list (nds ys)) = true from lay_nds ys, Bool.and_self, if_pos rfl, show PyData.eqv (.list (nds xs)) (.list (nds ys)) = _ from eqv_nds xs ys]
theorem any_nds (x : Nat) (xs : List Nat) : ((nds xs).any fun e => PyData.eqv e (nd x)) = decide (x ∈ xs) := by
  induction xs with
  | nil => rfl
  | cons y r ih =>
    show (PyData.eqv (nd y) (nd x) || (nds r).any fun e => PyData.eqv e (nd x)) = _
    rw [ih, eqv_nd]
    by_cases h : y = x
    · rw [decide_eq_true h, decide_eq_true (show x ∈ y :: r by rw [h]; exact List.mem_cons_self), Bool.true_or]
    · rw [decide_eq_false h, Bool.false_or]
      by_cases g : x ∈ r
      · rw [decide_eq_true g, decide_eq_true (List.mem_cons_of_mem _ g)]
      · rw [decide_eq_false g, decide_eq_false (fun z => (List.mem_cons.mp z).elim (fun e => h e.symm) g)]
theorem inD_nds (x : Nat) (xs : List Nat) : inD (nd x) (.list (nds xs)) = some (.fz (.bool (decide (x ∈ xs)))) := by
  show (if (okD (nd x) && PyData.canLayAll0 (nds xs)) = true then _ else _) = _
  rw [lay_nds, show okD (nd x) = true from rfl, Bool.and_self, if_pos rfl, any_nds]
theorem ninD_nds (x : Nat) (xs : List Nat) : ninD (nd x) (.list (nds xs)) = some (.fz (.bool (!decide (x ∈ xs)))) := by
  show (if (okD (nd x) && PyData.canLayAll0 (nds xs)) = true then _ else _) = _
  rw [lay_nds, show okD (nd x) = true from rfl, Bool.and_self, if_pos rfl, any_nds]
theorem inD_ndt (x : Nat) (xs : List Nat) : inD (nd x) (.tuple (nds xs)) = some (.fz (.bool (decide (x ∈ xs)))) := by
  show (if (okD (nd x) && PyData.canLayAll0 (nds xs)) = true then _ else _) = _
  rw [lay_nds, show okD (nd x) = true from rfl, Bool.and_self, if_pos rfl, any_nds]
theorem ninD_ndt (x : Nat) (xs : List Nat) : ninD (nd x) (.tuple (nds xs)) = some (.fz (.bool (!decide (x ∈ xs)))) := by
  show (if (okD (nd x) && PyData.canLayAll0 (nds xs)) = true then _ else _) = _
  rw [lay_nds, show okD (nd x) = true from rfl, Bool.and_self, if_pos rfl, any_nds]
theorem atI_nd {α : Type} {xs : List α} {i : Nat} {v : α} (h : xs[i]? = some v) : atI xs (i : Int) = some v := atI_nat h
theorem ixT {ds : List D} {i : Nat} {d : D} (h : ds[i]? = some d) : ixD (.tuple ds) (nd i) = some (.fz d) := by
  show (atI ds (i : Int)).map RV.fz = _
  rw [atI_nd h]; rfl
theorem ixL {ds : List D} {i : Nat} {d : D} (h : ds[i]? = some d) : ixD (.list ds) (nd i) = some (.fz d) := by
  show (atI ds (i : Int)).map RV.fz = _
  rw [atI_nd h]; rfl
end L3
namespace L3
open PySem L2
/-! ## one step at a time: what a form is worth, from its parts -/
section
variable {ρ ρ1 ρ2 ρ3 : PEnv} {fa fb fc fe : FE} {pa pb pv : PV} {dx dy d : D} {rv : RV} {ps : List PV} {ds : List D}
theorem ev_var {i : Nat} (h : ρ[i]? = some (some (.fz d))) : pVar i ρ = .ok (.fz d, ρ) := by rw [var_eq, h, var_fz]
theorem ev_own {i : Nat} (h : ρ[i]? = some (some (.ow ds))) : pVar i ρ = .ok (.pl i, ρ) := by rw [var_eq, h, var_ow]
theorem ev_c : pC d ρ = .ok (.fz d, ρ) := rfl
theorem ev_op {f : D → D → Option RV} (ha : fa ρ = .ok (pa, ρ1)) (hb : fb ρ1 = .ok (pb, ρ2)) (hx : rdD ρ2 (settle pa) = some dx) (hy : rdD ρ2 pb = some dy) (hf : f dx dy = some rv) : pOp f fa fb ρ = .ok (rv.pv, ρ2) := by
  unfold pOp
  rw [ha, Res.bind_ok, hb, Res.bind_ok, hx, ofO_some, Res.bind_ok, hy, ofO_some, Res.bind_ok, hf, ofO_some, Res.bind_ok]
theorem ev_un {f : D → Option RV} (ha : fa ρ = .ok (pa, ρ1)) (hx : rdD ρ1 pa = some dx) (hf : f dx = some rv) : pUn f fa ρ = .ok (rv.pv, ρ1) := by
  unfold pUn
  rw [ha, Res.bind_ok, hx, ofO_some, Res.bind_ok, hf, ofO_some, Res.bind_ok]
theorem ev_bool {b : Bool} (ha : fa ρ = .ok (pa, ρ1)) (hx : rdD ρ1 pa = some (.bool b)) : pBool fa ρ = .ok (b, ρ1) := by
  unfold pBool
  rw [ha, Res.bind_ok, hx, ofO_some, Res.bind_ok, asB_bool, ofO_some, Res.bind_ok]
theorem ev_qand {f g : FT} {a b : Bool} (ha : f ρ = .ok (a, ρ1)) (hb : a = true → g ρ1 = .ok (b, ρ1)) : qAnd f g ρ = .ok (a && b, ρ1) := by
  unfold qAnd
  rw [ha, Res.bind_ok]
  cases a with
  | true => rw [if_pos rfl, hb rfl, Bool.true_and]
  | false => rw [if_neg Bool.false_ne_true, Bool.false_and]
theorem ev_qor {f g : FT} {a b : Bool} (ha : f ρ = .ok (a, ρ1)) (hb : a = false → g ρ1 = .ok (b, ρ1)) : qOr f g ρ = .ok (a || b, ρ1) := by
  unfold qOr
  rw [ha, Res.bind_ok]
  cases a with
  | true => rw [if_pos rfl, Bool.true_or]
  | false => rw [if_neg Bool.false_ne_true, hb rfl, Bool.false_or]
theorem ev_qnot {f : FT} {a : Bool} (ha : f ρ = .ok (a, ρ1)) : qNot f ρ = .ok (!a, ρ1) := by
  unfold qNot
  rw [ha, Res.bind_ok]
theorem ev_pand {a b : Bool} (ha : pBool fa ρ = .ok (a, ρ1)) (hb : a = true → fb ρ1 = .ok (.fz (.bool b), ρ1)) : pAnd fa fb ρ = .ok (.fz (.bool (a && b)), ρ1) := by
  unfold pAnd
  rw [ha, Res.bind_ok]
  cases a with
  | true => rw [if_pos rfl, hb rfl, Bool.true_and]
  | false => rw [if_neg Bool.false_ne_true, Bool.false_and]
theorem ev_por {a b : Bool} (ha : pBool fa ρ = .ok (a, ρ1)) (hb : a = false → fb ρ1 = .ok (.fz (.bool b), ρ1)) : pOr fa fb ρ = .ok (.fz (.bool (a || b)), ρ1) := by
  unfold pOr
  rw [ha, Res.bind_ok]
  cases a with
  | true => rw [if_pos rfl, Bool.true_or]
  | false => rw [if_neg Bool.false_ne_true, hb rfl, Bool.false_or]
theorem ev_pnot {a : Bool} (ha : pBool fa ρ = .ok (a, ρ1)) : pNot fa ρ = .ok (.fz (.bool (!a)), ρ1) := by
  unfold pNot
  rw [ha, Res.bind_ok]
theorem ev_nil : aNil ρ = .ok ([], ρ) := rfl
theorem ev_cons {fr : FA} (ha : fa ρ = .ok (pa, ρ1)) (hr : fr ρ1 = .ok (ps, ρ2)) : aCons fa fr ρ = .ok (settle pa :: ps, ρ2) := by
  unfold aCons
  rw [ha, Res.bind_ok, hr, Res.bind_ok]
theorem ev_cb {f : List D → Option RV} {fr : FA} (ha : fr ρ = .ok (ps, ρ1)) (hd : rdDs ρ1 ps = some ds) (hf : f ds = some rv) : pCB f fr ρ = .ok (rv.pv, ρ1) := by
  unfold pCB
  rw [ha, Res.bind_ok, hd, ofO_some, Res.bind_ok, hf, ofO_some, Res.bind_ok]
theorem ev_cal {F : FN} {n : Nat} {fr : FA} (ha : fr ρ = .ok (ps, ρ1)) (hd : toDs ρ1 ps = some (ds, ρ2)) (hn : ds.length = n) (hF : F ds = .ok rv) : pCal F n fr ρ = .ok (rv.pv, ρ2) := by
  unfold pCal
  rw [ha, Res.bind_ok, hd, ofO_some, Res.bind_ok]
  dsimp only
  rw [if_pos hn, hF, noEr_okk, Res.bind_ok]
theorem ev_tup {fr : FA} (ha : fr ρ = .ok (ps, ρ1)) (hd : toDs ρ1 ps = some (ds, ρ2)) (hn : ds.length ≤ 1000) : pTup fr ρ = .ok (.fz (.tuple ds), ρ2) := by
  unfold pTup
  rw [ha, Res.bind_ok, hd, ofO_some, Res.bind_ok]
  dsimp only
  rw [if_pos hn]
theorem ev_lst {fr : FA} (ha : fr ρ = .ok (ps, ρ1)) (hd : toDs ρ1 ps = some (ds, ρ2)) (hn : ds.length ≤ 1000) : pLst fr ρ = .ok (.ow ds, ρ2) := by
  unfold pLst
  rw [ha, Res.bind_ok, hd, ofO_some, Res.bind_ok]
  dsimp only
  rw [if_pos hn]
theorem ev_isi {n t : String} (ha : fa ρ = .ok (pa, ρ1)) (hx : rdD ρ1 pa = some dx) (ht : tyOf dx = some t) : pIsi n fa ρ = .ok (.fz (.bool (isiT n t)), ρ1) := by
  unfold pIsi
  rw [ha, Res.bind_ok, hx, ofO_some, Res.bind_ok, ht, ofO_some, Res.bind_ok]
theorem ev_onone : oNone ρ = .ok (none, ρ) := rfl
theorem ev_osome {i : Int} (ha : fa ρ = .ok (pa, ρ1)) (hx : rdD ρ1 pa = some (.int i)) : oSome fa ρ = .ok (some i, ρ1) := by
  unfold oSome
  rw [ha, Res.bind_ok, hx, ofO_some, Res.bind_ok, asI_int, ofO_some, Res.bind_ok]
theorem ev_sl {f : D → Option Int → Option Int → Option RV} {fl fh : FO} {lo hi : Option Int} (ha : fa ρ = .ok (pa, ρ1)) (hl : fl ρ1 = .ok (lo, ρ2)) (hh : fh ρ2 = .ok (hi, ρ3)) (hx : rdD ρ3 (settle pa) = some dx) (hf : f dx lo hi = some rv) : pSl f fa fl fh ρ = .ok (rv.pv, ρ3) := by
  unfold pSl
  rw [ha, Res.bind_ok, hl, Res.bind_ok, hh, Res.bind_ok, hx, ofO_some, Res.bind_ok, hf, ofO_some, Res.bind_ok]
theorem ev_app {i : Nat} {es : List D} {x : PEnv} (h0 : ρ[i]? = some (some (.ow es))) (ha : fe ρ = .ok (pa, ρ1)) (ht : toD ρ1 pa = some (d, ρ2)) (h1 : ρ2[i]? = some (some (.ow ds))) (hl : ds.length < 1000000) (hx : ρ2.set i (some (.ow (ds ++ [d]))) = x) : pApp i fe ρ = .ok (.fz .none, x) := by
  unfold pApp
  rw [h0, asOw_some, ofO_some, Res.bind_ok, ha, Res.bind_ok, ht, ofO_some, Res.bind_ok]
  dsimp only
  rw [h1, asOw_some, ofO_some, Res.bind_ok, if_pos hl, hx]
theorem ev_pop {i k : Nat} {n : Int} {es : List D} {x : PEnv} {y : D} (h0 : ρ[i]? = some (some (.ow es))) (ha : fe ρ = .ok (pa, ρ1)) (ht : rdD ρ1 pa = some (.int n)) (h1 : ρ1[i]? = some (some (.ow ds))) (hn : -(2 ^ 63) ≤ n ∧ n < 2 ^ 63) (hk : seqIndex? n ds.length = some k) (hy : ds[k]? = some y)
    (hx : ρ1.set i (some (.ow (ds.eraseIdx k))) = x) : pPop i fe ρ = .ok (.fz y, x) := by
  unfold pPop
  rw [h0, asOw_some, ofO_some, Res.bind_ok, ha, Res.bind_ok, ht, ofO_some, Res.bind_ok, asI_int, ofO_some, Res.bind_ok, h1, asOw_some, ofO_some, Res.bind_ok, if_pos hn, hk, ofO_some, Res.bind_ok, hy, ofO_some, Res.bind_ok, hx]
theorem ev_comp {n : Nat} {fv : List Nat} {fi : FI} {gt : FG} {ft : FT} {cs xs : List D} (hi : fi ρ = .ok (ds, ρ1)) (hc : captL ρ1 fv = some (cs, ρ2)) (hp : noEr (compP gt ft fe ds (List.replicate n none ++ cs.map fun d => some (.fz d)) []) = .ok xs) : pComp n fv fi gt ft fe ρ = .ok (.ow xs, ρ2) := by
  unfold pComp
  rw [hi, Res.bind_ok]
  dsimp only
  rw [hc, ofO_some, Res.bind_ok]
  dsimp only
  rw [hp, Res.bind_ok]
/-! what is walked -/
theorem ixt0 {a : D} {r : List D} : ixD (.tuple (a :: r)) (.int 0) = some (.fz a) := ixT (i := 0) rfl
theorem ixt1 {a b : D} {r : List D} : ixD (.tuple (a :: b :: r)) (.int 1) = some (.fz b) := ixT (i := 1) rfl
theorem ixt2 {a b c : D} {r : List D} : ixD (.tuple (a :: b :: c :: r)) (.int 2) = some (.fz c) := ixT (i := 2) rfl
theorem ixl0 {a : D} {r : List D} : ixD (.list (a :: r)) (.int 0) = some (.fz a) := ixL (i := 0) rfl
theorem ixl1 {a b : D} {r : List D} : ixD (.list (a :: b :: r)) (.int 1) = some (.fz b) := ixL (i := 1) rfl
theorem fm_flt {f : D → Option D} {p : Nat → Bool} (xs : List Nat) (h : ∀ x ∈ xs, f (nd x) = if p x = true then some (nd x) else none) : (nds xs).filterMap f = nds (xs.filter p) := by
  induction xs with
  | nil => rfl
  | cons x r ih =>
    have h1 := h x List.mem_cons_self
    have h2 := ih fun y hy => h y (List.mem_cons_of_mem _ hy)
    show ((nd x) :: nds r).filterMap f = _
    cases q : p x with
    | true =>
      rw [q, if_pos rfl] at h1
      rw [List.filterMap_cons_some h1, h2, List.filter_cons_of_pos q]
      rfl
    | false =>
      rw [q, if_neg Bool.false_ne_true] at h1
      rw [List.filterMap_cons_none h1, h2, List.filter_cons_of_neg (by rw [q]; exact Bool.false_ne_true)]
theorem ev_iseq {es : List D} (ha : fe ρ = .ok (pa, ρ1)) (ht : toD ρ1 pa = some (d, ρ2)) (hs : asSeq d = some es) : iSeq fe ρ = .ok (es, ρ2) := by
  unfold iSeq
  rw [ha, Res.bind_ok, ht, ofO_some, Res.bind_ok]
  dsimp only
  rw [hs, ofO_some, Res.bind_ok]
theorem ev_irng {f : List D → Option (List D)} {fr : FA} {es : List D} (ha : fr ρ = .ok (ps, ρ1)) (hd : rdDs ρ1 ps = some ds) (hf : f ds = some es) : iRng f fr ρ = .ok (es, ρ1) := by
  unfold iRng
  rw [ha, Res.bind_ok, hd, ofO_some, Res.bind_ok, hf, ofO_some, Res.bind_ok]
theorem ev_ienum {fr : FA} {es : List D} (ha : fr ρ = .ok (ps, ρ1)) (hd : toDs ρ1 ps = some ([d], ρ2)) (hs : asSeq d = some es) : L3.iEnum fr ρ = .ok (enumFrom 0 es, ρ2) := by
  unfold L3.iEnum
  rw [ha, Res.bind_ok, hd, ofO_some, Res.bind_ok]
  dsimp only
  rw [hs, ofO_some, Res.bind_ok]
/-! statements; the names behind are written out -/
theorem st_asg {g : FG} (he : fe ρ = .ok (pv, ρ1)) (hg : g pv ρ1 = .ok ρ2) (hn : ρ2 = ρ3) : sAsg fe g ρ = .ok (.nx ρ3) := by
  unfold sAsg
  rw [he, Res.bind_ok]
  dsimp only
  rw [hg, Res.bind_ok, hn]
theorem st_drop (he : fe ρ = .ok (pv, ρ1)) : sDrop fe ρ = .ok (.nx ρ1) := by
  unfold sDrop
  rw [he, Res.bind_ok]
theorem st_ret (he : fe ρ = .ok (pv, ρ1)) (hr : retV ρ1 pv = some rv) : sRet fe ρ = .ok (.rt rv) := by
  unfold sRet
  rw [he, Res.bind_ok]
  dsimp only
  rw [hr, ofO_some, Res.bind_ok]
theorem ct_t {gt : FG} {ft : FT} {x : D} (hg : gt (.fz d) ρ = .ok ρ1) (ht : ft ρ1 = .ok (true, ρ2)) (he : fe ρ2 = .ok (pv, ρ3)) {ρ4 ρ5 : PEnv} (hx : toD ρ3 pv = some (x, ρ4)) (hf : forget ρ4 = ρ5) : compT gt ft fe d ρ = .ok (some x, ρ5) := by
  unfold compT
  rw [hg, Res.bind_ok, ht, Res.bind_ok, if_pos rfl, he, Res.bind_ok, hx, ofO_some, Res.bind_ok, hf]
theorem ct_f {gt : FG} {ft : FT} (hg : gt (.fz d) ρ = .ok ρ1) (ht : ft ρ1 = .ok (false, ρ2)) {ρ5 : PEnv} (hf : forget ρ2 = ρ5) : compT gt ft fe d ρ = .ok (none, ρ5) := by
  unfold compT
  rw [hg, Res.bind_ok, ht, Res.bind_ok, if_neg Bool.false_ne_true, hf]
end
end L3
namespace PySem
open Sem (wp)
open Builtin
open AutoSeq1 (wpAny_loadPart')
theorem noFill_tuple_mul : fillsNumberSlot (.type "tuple") "mul" = pure false :=
  fillsNumberSlot_seq (id := "tuple.__mul__") (r := some (.builtin "tuple.__rmul__")) F.slot_tuple_mul.lookup (by decide +kernel) F.slot_tuple_rmul.lookup (by decide +kernel)
theorem repeat_tuple : seqRepeat? (.type "tuple") = pure (some (.builtin "tuple.__mul__")) := by
  unfold seqRepeat?
  rw [seqSlot_of (T := "tuple") (name := "__mul__") (id := "tuple.__mul__") F.slot_tuple_mul.lookup (by decide +kernel), seqSlot_of (T := "tuple") (name := "__rmul__") (id := "tuple.__rmul__") F.slot_tuple_rmul.lookup (by decide +kernel)]
  rfl
theorem int_rmul_tuple (a : Int) (t : Tok) (l : Addr) (items : Array Value) (n : Nat) (dct : Option Addr) (sl : Array (Option Value)) :
    Meets (Builtin.«int.__rmul__» ⟨[.int a t, .ref l], []⟩) (fun _ R s => s.heap.get? l = some { cls := .type "tuple", dict := dct, data := .seq items n, slots := sl } ∧ R (.ok (.ret Value.notImplemented)) s) :=
  .of_wp fun prog w A R s h => by obtain ⟨hp, g, d, tk, os⟩ := s; obtain ⟨hl, h⟩ := h; wp_walk; exact ⟨_, rfl, h⟩
theorem tuple_mulW1 (l : Addr) (items : Array Value) (n : Nat) (dct : Option Addr) (sl : Array (Option Value)) (u : Tok) :
    Meets (Builtin.«tuple.__mul__» ⟨[.ref l, .int 1 u], []⟩) (fun _ R s => s.heap.get? l = some { cls := .type "tuple", dict := dct, data := .seq items n, slots := sl } ∧ R (.ok (.ret (Value.ref l))) s) :=
  .of_wp fun prog w A R s h => by
    obtain ⟨hp, g, d, tk, os⟩ := s; obtain ⟨hl, h⟩ := h
    wp_walk
    exact ⟨_, rfl, h⟩
theorem tuple_mulW2 (l : Addr) (items : Array Value) (n : Nat) (dct : Option Addr) (sl : Array (Option Value)) (x : Int) (u : Tok) (h1 : 2 ≤ x) (h2 : x ≤ 1000) (hne : items.isEmpty = false) (hz : items.size ≤ 1000) :
    Meets (Builtin.«tuple.__mul__» ⟨[.ref l, .int x u], []⟩) (fun _ R s => s.heap.get? l = some { cls := .type "tuple", dict := dct, data := .seq items n, slots := sl } ∧ R (.ok (.ret (Value.ref s.heap.objs.size))) { s with heap := s.heap.push { cls := Value.type "tuple", data := Data.seq (List.foldl (fun x1 x2 => x1 ++ x2) #[] (List.replicate x.toNat items)) }, toks := s.toks }) :=
  .of_wp fun prog w A R s h => by
    obtain ⟨hp, g, d, tk, os⟩ := s; obtain ⟨hl, h⟩ := h
    have c1 : ¬ (decide (x < -(2 ^ 63)) || decide (x ≥ 2 ^ 63)) = true := by simp; omega
    have c2 : (x == 1) = false := by simp; omega
    have c3 : decide (x ≤ 0) = false := by simp; omega
    have c0 : (items.isEmpty || x == 1) = false := by rw [hne, c2]; rfl
    have c4 : (decide (x ≤ 0) || items.isEmpty) = false := by rw [hne, c3]; rfl
    have hmul : (items.size : Int) * x ≤ 1000000 := by
      have : (items.size : Int) * x ≤ 1000 * 1000 := Int.mul_le_mul (by omega) h2 (by omega) (by omega)
      omega
    have c5 : ¬ (items.size : Int) * x > (2 ^ 63 - 1) / 8 := by omega
    have c6 : ¬ Tuple.tupleTooMany ((items.size : Int) * x) = true := by
      unfold Tuple.tupleTooMany
      simp
      have : (sizeLine : Nat) = 16777216 := by decide
      omega
    wp_walk
    rw [if_neg c1]
    wp_walk using wpAny_loadPart' hl
    rw [if_neg c5]
    dsimp only
    rw [if_neg c6]
    have hz2 : (List.foldl (fun x1 x2 => x1 ++ x2) #[] (List.replicate x.toNat items)).size ≤ sizeLine := by
      have f0 : ∀ (m : Nat) (b : Array Value), (List.foldl (fun x1 x2 => x1 ++ x2) b (List.replicate m items)).size = b.size + m * items.size := by
        intro m
        induction m with
        | zero => intro b; simp
        | succ m ih => intro b; rw [List.replicate_succ, List.foldl_cons, ih, Array.size_append, Nat.succ_mul]; omega
      rw [f0]
      have h3 : x.toNat * items.size ≤ 1000 * 1000 := Nat.mul_le_mul (by omega) hz
      have : (sizeLine : Nat) = 16777216 := by decide
      simp
      omega
    wp_walk
    exact ⟨_, rfl, h⟩
end PySem
namespace L3
open PySem PySem.Spec PyProof.Rows L2
/-- a tuple, not empty, times a number from 1 on -/
noncomputable def rRepT (K : PySem.W.Frag) : R2 := fun x y H Q => ∃ (a : Addr) (k : Nat) (xs : List V), x = .ref a ∧ y = .int (k : Int) ∧ SqT K H a xs ∧ xs ≠ [] ∧ 1 ≤ k ∧ k ≤ 1000 ∧ xs.length ≤ 1000 ∧
  (k = 1 → Q (.ref a) H) ∧ (2 ≤ k → ∀ p, H p = none → Q (.ref p) (upd H p (.tup (List.replicate k xs).flatten)))
theorem op_repT {X : Cx} : OpR X (binaryOp .Mult) (rRepT X.K) := by
  intro pins s σ H x y v u Q I rx ry h
  obtain ⟨a, k, xs, rfl, rfl, hx, hne, h1, h2, hl, q1, q2⟩ := h
  cases rx
  obtain ⟨t, rfl⟩ := ry
  obtain ⟨its, r, ht, hz⟩ := I.tuple hx
  obtain ⟨⟨cls, dd, data, sl⟩, ho, hc, n, hd⟩ := id ht
  simp only at hc hd
  subst hc hd
  have hlen := r.length
  refine wpAny_binaryOp_repeat_ref (T := "tuple") (U := "int") (by decide) ⟨_, ho, rfl⟩ (fun s' => typeIs_int s' k t) noFill_tuple_mul F.fills_int_mul F.slot_int_rmul repeat_tuple F.slot_int_index.lookup
    (call_meets F.slot_int_rmul (typeIs_int s k t) F.entry_int_rmul (F.args_int_rmul_2 _ _) (int_rmul_tuple k t a its.toArray n dd sl) ⟨ho, rfl, ⟨_, ho, rfl⟩, ?_⟩)
  by_cases hk : k = 1
  · subst hk
    exact call_meets F.slot_tuple_mul ⟨_, ho, rfl⟩ F.entry_tuple_mul (F.args_tuple_mul_2 _ _) (tuple_mulW1 a its.toArray n dd sl t) ⟨ho, ⟨.ref a, H, I, rfl, q1 rfl⟩⟩
  · refine call_meets F.slot_tuple_mul ⟨_, ho, rfl⟩ F.entry_tuple_mul (F.args_tuple_mul_2 _ _) (tuple_mulW2 a its.toArray n dd sl k t (by omega) (by omega) ?_ (by rw [List.size_toArray]; omega)) ⟨ho, ?_⟩
    · cases its with
      | nil => cases r; exact absurd rfl hne
      | cons y ys => rfl
    · have f0 : List.foldl (fun x1 x2 => x1 ++ x2) #[] (List.replicate ((k : Nat) : Int).toNat its.toArray) = (List.replicate k its).flatten.toArray := by
        have := foldl_rep its k []
        rw [List.nil_append] at this
        rw [Int.toNat_natCast]
        exact this
      rw [f0]
      refine ⟨.ref s.heap.objs.size, _, I.laid (t' := s.toks) (o := .tup (List.replicate k xs).flatten) (fun b ob q => Heap.get?_push_of_some _ q) (Nat.le_refl _) ?_, rfl, q2 (by omega) _ (I.hok.fresh (Nat.le_refl _))⟩
      refine ⟨?_, _, r.rep k, IsTup.new _ _⟩
      rw [len_rep]
      exact Nat.le_trans (Nat.mul_le_mul h2 hl) (by decide)
noncomputable def rMulB (K : PySem.W.Frag) : R2 := fun x y H Q => rMulA K x y H Q ∨ rRepT K x y H Q
theorem op_mulB {X : Cx} : OpR X (binaryOp .Mult) (rMulB X.K) := OpR.or op_mulA op_repT
noncomputable def mulE : D → D → Option RV
  | .tuple xs, .int k => if xs ≠ [] ∧ 1 ≤ k ∧ k ≤ 1000 ∧ xs.length ≤ 1000 then some (.fz (.tuple (List.replicate k.toNat xs).flatten)) else none
  | d, e => mulD d e
theorem opp_mulE {K : PySem.W.Frag} : OpP K (rMulB K) mulE := by
  intro O H x y dx dy rv Q n hx hy e q
  unfold mulE at e
  split at e
  · rename_i ds k
    split at e
    · rename_i hc
      cases e
      cases hy
      obtain ⟨a, xs, rfl, h1, h2⟩ := DXt hx
      obtain ⟨m, rfl⟩ : ∃ m : Nat, k = (m : Int) := ⟨k.toNat, by omega⟩
      rw [Int.toNat_natCast] at q
      refine .inr ⟨a, m, xs, rfl, rfl, h1.1, fun z => hc.1 (h2.ne.mp z), by omega, by omega, by rw [h2.length]; exact hc.2.2.2, fun e => ?_, fun _ => Fin.newT (h2.flat m) n q⟩
      subst e
      have e1 : (List.replicate 1 ds).flatten = ds := by simp
      rw [e1] at q
      exact q.at (.tup h1 h2)
    · cases e
  · exact .inl (opp_mul O H x y dx dy rv Q n hx hy e q)
theorem mulE_int (i j : Int) : mulE (.int i) (.int j) = mulD (.int i) (.int j) := rfl
theorem trE_mulL {i j : Int} (h : -(2 ^ 64) < i ∧ i < 2 ^ 64) : mulE (.int i) (.int j) = some (.fz (.int (i * j))) := (mulE_int i j).trans (tr_mulL h)
theorem trE_mulR {i j : Int} (h : -(2 ^ 64) < j ∧ j < 2 ^ 64) : mulE (.int i) (.int j) = some (.fz (.int (i * j))) := (mulE_int i j).trans (tr_mulR h)
end L3
namespace PySem
open Sem (wp)
open Builtin Builtin.Str
/-! ### an iterator over a list (false) or a tuple (true) -/
noncomputable def itAt : Bool → Heap → Addr → Addr → Nat → Prop
  | true, h, it, a, i => h.IsTupleIter it a i
  | false, h, it, a, i => h.IsListIter it a i
noncomputable def sqAt : Bool → Heap → Addr → Array Value → Prop
  | true, h, a, xs => h.IsTuple a xs
  | false, h, a, xs => h.IsList a xs
noncomputable def itCls : Bool → String
  | true => "tuple_iterator"
  | false => "list_iterator"
theorem itAt.ext {b : Bool} {h h' : Heap} {it a c : Addr} {i : Nat} (x : itAt b h it a i) (e : Heap.ExtBut c h h') (n : it ≠ c) : itAt b h' it a i := by
  cases b with
  | true => exact Heap.IsTupleIter.extBut x e n
  | false => exact Heap.IsListIter.extBut x e n
theorem itAt.to {b : Bool} {h h' : Heap} {it a : Addr} {i : Nat} (x : itAt b h it a i) (e : ∀ o, h.get? it = some o → h'.get? it = some o) : itAt b h' it a i := by
  cases b with
  | true => exact Heap.IsTupleIter.at x e
  | false => exact Heap.IsListIter.at x e
theorem itAt.live {b : Bool} {h : Heap} {it a : Addr} {i : Nat} (x : itAt b h it a i) : ∃ o, h.get? it = some o ∧ ∀ v, o.data ≠ .cell v := by
  cases b with
  | true => obtain ⟨o, ho, _, d⟩ := (show h.IsTupleIter it a i from x); exact ⟨o, ho, fun v z => by rw [d] at z; cases z⟩
  | false => obtain ⟨o, ho, _, d⟩ := (show h.IsListIter it a i from x); exact ⟨o, ho, fun v z => by rw [d] at z; cases z⟩
theorem sqAt.ext {b : Bool} {h h' : Heap} {a c : Addr} {xs : Array Value} (x : sqAt b h a xs) (e : Heap.ExtBut c h h') (n : a ≠ c) : sqAt b h' a xs := by
  cases b with
  | true => exact Heap.IsTuple.extBut x e n
  | false => exact Heap.IsList.extBut x e n
theorem sqAt.psh {b : Bool} {h : Heap} {a : Addr} {xs : Array Value} (x : sqAt b h a xs) (o : Obj) : sqAt b (h.push o) a xs := by
  cases b with
  | true => exact Heap.IsTuple.push x o
  | false => exact Heap.IsList.push x o
theorem sqAt.lt {b : Bool} {h : Heap} {a : Addr} {xs : Array Value} (x : sqAt b h a xs) : a < h.objs.size := by
  cases b with
  | true => obtain ⟨o, e, _⟩ := (show h.IsTuple a xs from x); exact Heap.lt_size e
  | false => obtain ⟨o, e, _⟩ := (show h.IsList a xs from x); exact Heap.lt_size e
section
variable {prog : Program} {w : World} {A : Around} {E : Value → Shared → Prop} {s : Shared}
theorem next_it {b : Bool} {it l : Addr} {i : Nat} {xs : Array Value} {x : Value} {Q : Value → Shared → Prop} (hi : itAt b s.heap it l i) (hl : sqAt b s.heap l xs) (hx : xs[i]? = some x)
    (q : ∀ h', itAt b h' it l (i + 1) → Heap.SameBut it s.heap h' → Q x { s with heap := h' }) : wpAny (model prog w) A (SmallTypes.nextOf (.ref it)) Q E s := by
  cases b with
  | true => exact nextOf_tuple_item hi hl hx q
  | false => exact wpAny_nextOf_list_item hi hl hx q
theorem next_no {b : Bool} {it l : Addr} {i : Nat} {xs : Array Value} {Q : Value → Shared → Prop} (hh : A.handled = none) (hi : itAt b s.heap it l i) (hl : sqAt b s.heap l xs) (hx : xs[i]? = none)
    (q : ∀ h' e, Heap.ExtBut it s.heap h' → (∃ o, h'.get? e = some o ∧ o.cls = .type "StopIteration") → E (.ref e) { s with heap := h' }) : wpAny (model prog w) A (SmallTypes.nextOf (.ref it)) Q E s := by
  cases b with
  | true => exact nextOf_tuple_end hh hi hl hx q
  | false => exact wpAny_nextOf_list_end hh hi hl hx q
theorem iter_sq {b : Bool} {l : Addr} {xs : Array Value} {Q : Value → Shared → Prop} (hl : sqAt b s.heap l xs)
    (q : Q (.ref s.heap.objs.size) { s with heap := s.heap.push { cls := .type (itCls b), data := .fields #[.ref l, .int 0 0] } }) : wpAny (model prog w) A (pyIter (.ref l)) Q E s := by
  cases b with
  | true => exact wpAny_pyIter_tuple hl q
  | false => exact wpAny_pyIter_list hl q
/-! ### zip of two, each a list or a tuple -/
theorem zip_item2 {z TI TO i1 i2 l1 l2 : Addr} {b1 b2 : Bool} {n : Nat} {xs ys : Array Value} {x y a b : Value} {Q : Value → Shared → Prop} (D : ZipApart z TI TO i1 i2 l1 l2) (hz : IsZip s.heap z TI TO .none)
    (hTI : IsPair s.heap TI (.ref i1) (.ref i2)) (hTO : IsPair s.heap TO a b) (h1 : itAt b1 s.heap i1 l1 n) (h2 : itAt b2 s.heap i2 l2 n) (hl1 : sqAt b1 s.heap l1 xs) (hl2 : sqAt b2 s.heap l2 ys) (hx : xs[n]? = some x) (hy : ys[n]? = some y)
    (q : ∀ h', IsZip h' z TI TO (rawInt s.heap.objs.size) → IsPair h' TO x y → itAt b1 h' i1 l1 (n + 1) → itAt b2 h' i2 l2 (n + 1) → IsPair h' s.heap.objs.size x y → h'.objs.size = s.heap.objs.size + 1 →
      (∀ c o, c ≠ z → c ≠ TO → c ≠ i1 → c ≠ i2 → s.heap.get? c = some o → h'.get? c = some o) → Q (.ref s.heap.objs.size) { s with heap := h' }) :
    wpAny (model prog w) A (Builtin.«zip.__next__» ⟨[.ref z], []⟩) (fun fin s' => ∃ v, fin = .done (.ret v) ∧ Q v s') E s := by
  show wpAny _ _ (field (.ref z) 2 >>= _) _ _ _; refine wpAny_bind (wpAny_field hz rfl (x := .bool false) rfl ?_); show wpAny _ _ (field (.ref z) 3 >>= _) _ _ _
  refine wpAny_bind (wpAny_field hz rfl (x := .ref TI) rfl ?_); refine wpAny_bind (wpAny_seqItems hTI rfl ?_); show wpAny _ _ (SmallTypes.ownedTupleIsFree (.ref z) >>= _) _ _ _
  refine wpAny_bind ?_; unfold SmallTypes.ownedTupleIsFree; refine wpAny_bind (wpAny_field hz rfl (x := .none) rfl (wpAny_pure ?_)); simp only [if_true]
  refine wpAny_bind (wpAny_rule ?_); refine wpAny_bind (wpAny_field hz rfl (x := .ref TO) rfl ?_); refine wpAny_bind (wpAny_setField_rec hz (by simp) fun k₁ hz₁ e₁ => ?_)
  have hz₁' : IsZip k₁ z TI TO .ellipsis := hz₁
  clear hz₁
  refine wpAny_bind ?_; simp only [List.zipIdx_cons, List.zipIdx_nil, List.forIn_cons, List.forIn_nil]
  refine wpAny_bind (wpAny_bind (wpAny_onRaise ?_)); show wpAny _ _ (SmallTypes.nextOf (.ref i1) >>= _) _ _ _
  refine wpAny_bind (next_it (h1.ext e₁.extBut D.i1z) (hl1.ext e₁.extBut D.l1z) hx fun k₂ g₂ e₂ => wpAny_pure ?_)
  have o₂ : IsPair k₂ TO a b := e₂.extBut _ _ D.TOi1 (e₁.extBut _ _ D.TOz hTO)
  refine wpAny_bind (wpAny_seqItems o₂ rfl ?_); refine wpAny_bind (wpAny_updateSeq_pair o₂ fun k₃ o₃ e₃ => ?_)
  have o₃' : IsPair k₃ TO x b := o₃
  clear o₃
  refine wpAny_bind (wpAny_letGo (wpAny_pure ?_)); refine wpAny_bind (wpAny_bind (wpAny_onRaise ?_)); show wpAny _ _ (SmallTypes.nextOf (.ref i2) >>= _) _ _ _
  refine wpAny_bind (next_it (((h2.ext e₁.extBut D.i2z).ext e₂.extBut D.i12.symm).ext e₃.extBut D.TOi2.symm) (((hl2.ext e₁.extBut D.l2z).ext e₂.extBut D.l2i1).ext e₃.extBut D.l2TO) hy fun k₄ g₄ e₄ => wpAny_pure ?_)
  have o₄ : IsPair k₄ TO x b := e₄.extBut _ _ D.TOi2 o₃'
  refine wpAny_bind (wpAny_seqItems o₄ rfl ?_); refine wpAny_bind (wpAny_updateSeq_pair o₄ fun k₅ o₅ e₅ => ?_)
  have o₅' : IsPair k₅ TO x y := o₅
  clear o₅
  refine wpAny_bind (wpAny_letGo (wpAny_pure (wpAny_pure ?_))); refine wpAny_bind (wpAny_seqItems o₅' rfl ?_); refine wpAny_bind (wpAny_newTuple ?_)
  have hsz : k₅.objs.size = s.heap.objs.size := by rw [e₅.1, e₄.1, e₃.1, e₂.1, e₁.1]
  have z₅ : IsZip k₅ z TI TO .ellipsis := e₅.extBut _ _ D.TOz.symm (e₄.extBut _ _ D.i2z.symm (e₃.extBut _ _ D.TOz.symm (e₂.extBut _ _ D.i1z.symm hz₁')))
  have kp : ∀ c o, c ≠ z → c ≠ TO → c ≠ i1 → c ≠ i2 → s.heap.get? c = some o → k₅.get? c = some o := fun c o c1 c2 c3 c4 e =>
    e₅.extBut _ _ c2 (e₄.extBut _ _ c4 (e₃.extBut _ _ c2 (e₂.extBut _ _ c3 (e₁.extBut _ _ c1 e))))
  have u₁ : itAt b1 k₅ i1 l1 (n + 1) := ((g₂.ext e₃.extBut D.TOi1.symm).ext e₄.extBut D.i12).ext e₅.extBut D.TOi1.symm
  have u₂ : itAt b2 k₅ i2 l2 (n + 1) := g₄.ext e₅.extBut D.TOi2.symm
  have hlt : z < k₅.objs.size := Heap.lt_size z₅
  show wpAny _ _ (SmallTypes.ownedTupleHandOut (.ref z) (.ref k₅.objs.size) >>= _) _ _ _; refine wpAny_bind ?_; unfold SmallTypes.ownedTupleHandOut
  have z₆ : IsZip (k₅.push { cls := .type "tuple", data := .seq #[x, y] }) z TI TO .ellipsis := Heap.get?_push_of_some _ z₅
  refine wpAny_bind (wpAny_setField_rec z₆ (by simp) fun k₇ z₇ e₇ => ?_)
  have z₇' : IsZip k₇ z TI TO (rawInt k₅.objs.size) := z₇
  refine wpAny_setField_rec z₇' (by simp) fun k₈ z₈ e₈ => ?_
  have z₈' : IsZip k₈ z TI TO (rawInt k₅.objs.size) := z₈
  have up : ∀ c o, c ≠ z → k₅.get? c = some o → k₈.get? c = some o := fun c o c1 e => e₈.extBut _ _ c1 (e₇.extBut _ _ c1 (Heap.get?_push_of_some _ e))
  have t₈ : IsPair k₈ k₅.objs.size x y := e₈.extBut _ _ (Nat.ne_of_gt hlt) (e₇.extBut _ _ (Nat.ne_of_gt hlt) (Heap.get?_push_size _ rfl))
  have n₈ : k₈.objs.size = k₅.objs.size + 1 := by rw [e₈.1, e₇.1, Heap.size_push]
  rw [hsz] at z₈' t₈ n₈
  refine wpAny_pure ⟨_, rfl, ?_⟩
  show Q (.ref k₅.objs.size) _
  rw [hsz]
  exact q k₈ z₈' (up _ _ D.TOz o₅') (u₁.to fun o e => up _ o D.i1z e) (u₂.to fun o e => up _ o D.i2z e) t₈ n₈ fun c o c1 c2 c3 c4 e => up c o c1 (kp c o c1 c2 c3 c4 e)
theorem zip_end2 {z TI TO i1 i2 l1 l2 : Addr} {b1 b2 : Bool} {n : Nat} {xs ys : Array Value} {a b : Value} {Q : Fin → Shared → Prop} (hh : A.handled = none) (D : ZipApart z TI TO i1 i2 l1 l2) (hz : IsZip s.heap z TI TO .none)
    (hTI : IsPair s.heap TI (.ref i1) (.ref i2)) (hTO : IsPair s.heap TO a b) (h1 : itAt b1 s.heap i1 l1 n) (h2 : itAt b2 s.heap i2 l2 n) (hl1 : sqAt b1 s.heap l1 xs) (hl2 : sqAt b2 s.heap l2 ys) (hend : xs[n]? = none ∨ ys[n]? = none)
    (q : ∀ h' e, (∀ c o, c ≠ z → c ≠ TO → c ≠ i1 → c ≠ i2 → s.heap.get? c = some o → h'.get? c = some o) → (∃ o, h'.get? e = some o ∧ o.cls = .type "StopIteration") → E (.ref e) { s with heap := h' }) :
    wpAny (model prog w) A (Builtin.«zip.__next__» ⟨[.ref z], []⟩) Q E s := by
  show wpAny _ _ (field (.ref z) 2 >>= _) _ _ _; refine wpAny_bind (wpAny_field hz rfl (x := .bool false) rfl ?_); show wpAny _ _ (field (.ref z) 3 >>= _) _ _ _
  refine wpAny_bind (wpAny_field hz rfl (x := .ref TI) rfl ?_); refine wpAny_bind (wpAny_seqItems hTI rfl ?_); show wpAny _ _ (SmallTypes.ownedTupleIsFree (.ref z) >>= _) _ _ _
  refine wpAny_bind ?_; unfold SmallTypes.ownedTupleIsFree; refine wpAny_bind (wpAny_field hz rfl (x := .none) rfl (wpAny_pure ?_)); simp only [if_true]
  refine wpAny_bind (wpAny_rule ?_); refine wpAny_bind (wpAny_field hz rfl (x := .ref TO) rfl ?_); refine wpAny_bind (wpAny_setField_rec hz (by simp) fun k₁ hz₁ e₁ => ?_)
  have hz₁' : IsZip k₁ z TI TO .ellipsis := hz₁
  refine wpAny_bind ?_; simp only [List.zipIdx_cons, List.zipIdx_nil, List.forIn_cons, List.forIn_nil]
  refine wpAny_bind (wpAny_bind (wpAny_onRaise ?_)); show wpAny _ _ (SmallTypes.nextOf (.ref i1) >>= _) _ _ _
  cases hx : xs[n]? with
  | none =>
    refine wpAny_bind (next_no hh (h1.ext e₁.extBut D.i1z) (hl1.ext e₁.extBut D.l1z) hx fun k₂ e e₂ he => ?_)
    obtain ⟨oe, hoe, hce⟩ := he
    have z₂ : IsZip k₂ z TI TO .ellipsis := e₂ _ _ D.i1z.symm hz₁'
    have ne : e ≠ z := fun t => by subst t; rw [z₂] at hoe; cases hoe; simp at hce
    exact wpAny_setField_rec z₂ (by simp) fun k₃ _ e₃ => q k₃ e (fun c o c1 _ c3 _ t => e₃.extBut _ _ c1 (e₂ _ _ c3 (e₁.extBut _ _ c1 t))) ⟨oe, e₃.extBut _ _ ne hoe, hce⟩
  | some x =>
    have hy : ys[n]? = none := by
      rcases hend with t | t
      · rw [hx] at t; cases t
      · exact t
    refine wpAny_bind (next_it (h1.ext e₁.extBut D.i1z) (hl1.ext e₁.extBut D.l1z) hx fun k₂ g₂ e₂ => wpAny_pure ?_)
    have o₂ : IsPair k₂ TO a b := e₂.extBut _ _ D.TOi1 (e₁.extBut _ _ D.TOz hTO)
    refine wpAny_bind (wpAny_seqItems o₂ rfl ?_); refine wpAny_bind (wpAny_updateSeq_pair o₂ fun k₃ o₃ e₃ => ?_)
    refine wpAny_bind (wpAny_letGo (wpAny_pure ?_)); refine wpAny_bind (wpAny_bind (wpAny_onRaise ?_)); show wpAny _ _ (SmallTypes.nextOf (.ref i2) >>= _) _ _ _
    refine wpAny_bind (next_no hh (((h2.ext e₁.extBut D.i2z).ext e₂.extBut D.i12.symm).ext e₃.extBut D.TOi2.symm) (((hl2.ext e₁.extBut D.l2z).ext e₂.extBut D.l2i1).ext e₃.extBut D.l2TO) hy fun k₄ e e₄ he => ?_)
    obtain ⟨oe, hoe, hce⟩ := he
    have z₄ : IsZip k₄ z TI TO .ellipsis := e₄ _ _ D.i2z.symm (e₃.extBut _ _ D.TOz.symm (e₂.extBut _ _ D.i1z.symm hz₁'))
    have ne : e ≠ z := fun t => by subst t; rw [z₄] at hoe; cases hoe; simp at hce
    exact wpAny_setField_rec z₄ (by simp) fun k₅ _ e₅ => q k₅ e (fun c o c1 c2 c3 c4 t => e₅.extBut _ _ c1 (e₄ _ _ c4 (e₃.extBut _ _ c2 (e₂.extBut _ _ c3 (e₁.extBut _ _ c1 t))))) ⟨oe, e₅.extBut _ _ ne hoe, hce⟩
end
end PySem
namespace PySem
open Sem (wp)
open Builtin Builtin.Str
section
variable {prog : Program} {w : World} {A : Around} {E : Value → Shared → Prop} {s : Shared}
theorem pyNext_zip2 {z TI TO i1 i2 l1 l2 : Addr} {b1 b2 : Bool} {n : Nat} {xs ys : Array Value} {x y a b : Value} {Q : Option Value → Shared → Prop} (D : ZipApart z TI TO i1 i2 l1 l2) (hz : IsZip s.heap z TI TO .none)
    (hTI : IsPair s.heap TI (.ref i1) (.ref i2)) (hTO : IsPair s.heap TO a b) (h1 : itAt b1 s.heap i1 l1 n) (h2 : itAt b2 s.heap i2 l2 n) (hl1 : sqAt b1 s.heap l1 xs) (hl2 : sqAt b2 s.heap l2 ys) (hx : xs[n]? = some x) (hy : ys[n]? = some y)
    (q : ∀ h', IsZip h' z TI TO (rawInt s.heap.objs.size) → IsPair h' TO x y → itAt b1 h' i1 l1 (n + 1) → itAt b2 h' i2 l2 (n + 1) → IsPair h' s.heap.objs.size x y → h'.objs.size = s.heap.objs.size + 1 →
      (∀ c o, c ≠ z → c ≠ TO → c ≠ i1 → c ≠ i2 → s.heap.get? c = some o → h'.get? c = some o) → Q (some (.ref s.heap.objs.size)) { s with heap := h' }) :
    wpAny (model prog w) A (pyNext (.ref z)) Q E s := by
  have hT : s.TypeIs (.ref z) "zip" := ⟨_, hz, rfl⟩
  unfold pyNext
  refine wpAny_bind (wpAny_attempt (wpAny_callSpecial?_slot (name := Str.ofString "__next__") hT F.slot_zip_next ?_))
  exact wpAny_call_entry F.slot_zip_next hT F.entry_zip_next (zip_item2 D hz hTI hTO h1 h2 hl1 hl2 hx hy fun h' a1 a2 a3 a4 a5 a6 a7 => wpAny_pure (q h' a1 a2 a3 a4 a5 a6 a7)) (F.args_zip_next_1 _)
theorem pyNext_zipE {z TI TO i1 i2 l1 l2 : Addr} {b1 b2 : Bool} {n : Nat} {xs ys : Array Value} {a b : Value} {Q : Option Value → Shared → Prop} (hh : A.handled = none) (D : ZipApart z TI TO i1 i2 l1 l2) (hz : IsZip s.heap z TI TO .none)
    (hTI : IsPair s.heap TI (.ref i1) (.ref i2)) (hTO : IsPair s.heap TO a b) (h1 : itAt b1 s.heap i1 l1 n) (h2 : itAt b2 s.heap i2 l2 n) (hl1 : sqAt b1 s.heap l1 xs) (hl2 : sqAt b2 s.heap l2 ys) (hend : xs[n]? = none ∨ ys[n]? = none)
    (q : ∀ h', (∀ c o, c ≠ z → c ≠ TO → c ≠ i1 → c ≠ i2 → s.heap.get? c = some o → h'.get? c = some o) → Q none { s with heap := h' }) : wpAny (model prog w) A (pyNext (.ref z)) Q E s := by
  have hT : s.TypeIs (.ref z) "zip" := ⟨_, hz, rfl⟩
  unfold pyNext
  refine wpAny_bind (wpAny_attempt (wpAny_callSpecial?_slot (name := Str.ofString "__next__") hT F.slot_zip_next ?_))
  refine wpAny_call_entry F.slot_zip_next hT F.entry_zip_next (zip_end2 hh D hz hTI hTO h1 h2 hl1 hl2 hend fun h' e hk he => ?_) (F.args_zip_next_1 _)
  obtain ⟨o, ho, hc⟩ := he
  exact wpAny_bind (wpAny_isInstance (T := "StopIteration") (b := true) ⟨o, ho, hc⟩ isSubtype_stop (wpAny_pure (q _ hk)))
end
noncomputable abbrev zz1 (h : Heap) (b1 : Bool) (l1 : Addr) : Heap := h.push { cls := .type (itCls b1), data := .fields #[.ref l1, .int 0 0] }
noncomputable abbrev zz2 (h : Heap) (b1 b2 : Bool) (l1 l2 : Addr) : Heap := (zz1 h b1 l1).push { cls := .type (itCls b2), data := .fields #[.ref l2, .int 0 0] }
noncomputable abbrev zz3 (h : Heap) (b1 b2 : Bool) (l1 l2 : Addr) : Heap := (zz2 h b1 b2 l1 l2).push { cls := .type "tuple", data := .seq #[.ref h.objs.size, .ref (zz1 h b1 l1).objs.size] }
noncomputable abbrev zz4 (h : Heap) (b1 b2 : Bool) (l1 l2 : Addr) : Heap := (zz3 h b1 b2 l1 l2).push { cls := .type "tuple", data := .seq #[.none, .none] }
noncomputable abbrev zz5 (h : Heap) (b1 b2 : Bool) (l1 l2 : Addr) : Heap := (zz4 h b1 b2 l1 l2).push { cls := .type "zip", data := .fields #[.none, .bool false, .bool false, .ref (zz2 h b1 b2 l1 l2).objs.size, .ref (zz3 h b1 b2 l1 l2).objs.size] }
theorem meets_zip_new2 (b1 b2 : Bool) (l1 l2 : Addr) (xs ys : Array Value) :
    Meets (Builtin.«zip.__new__» ⟨[.type "zip", .ref l1, .ref l2], []⟩) (fun _ R s => sqAt b1 s.heap l1 xs ∧ sqAt b2 s.heap l2 ys ∧ R (.ok (.ret (.ref (zz4 s.heap b1 b2 l1 l2).objs.size))) { s with heap := zz5 s.heap b1 b2 l1 l2 }) :=
  .of_wp fun prog w A R s h => by
    obtain ⟨hp, g, d, tk, os⟩ := s; obtain ⟨hl1, hl2, h⟩ := h
    have hsub := sub_zip
    have hL1 : sqAt b1 (Shared.heap ⟨hp, g, d, tk, os⟩) l1 xs := hl1
    have hL2 : sqAt b2 (Shared.heap ⟨hp.push { cls := .type (itCls b1), data := .fields #[.ref l1, .int 0 0] }, g, d, tk, os⟩) l2 ys := sqAt.psh hl2 _
    wp_walk using iter_sq hL1, iter_sq hL2
    exact ⟨_, rfl, h⟩
section
variable {prog : Program} {w : World} {A : Around} {E : Value → Shared → Prop} {s : Shared}
theorem it_new {b : Bool} {h : Heap} {it l : Addr} (e : h.get? it = some { cls := .type (itCls b), data := .fields #[.ref l, .int 0 0] }) : itAt b h it l 0 := by
  cases b with
  | true => exact ⟨_, e, rfl, rfl⟩
  | false => exact ⟨_, e, rfl, rfl⟩
theorem call_zipS {b1 b2 : Bool} {l1 l2 : Addr} {xs ys : Array Value} {Q : Value → Shared → Prop} (hl1 : sqAt b1 s.heap l1 xs) (hl2 : sqAt b2 s.heap l2 ys)
    (q : ∀ h', IsZip h' (s.heap.objs.size + 4) (s.heap.objs.size + 2) (s.heap.objs.size + 3) .none → IsPair h' (s.heap.objs.size + 2) (.ref s.heap.objs.size) (.ref (s.heap.objs.size + 1)) →
      IsPair h' (s.heap.objs.size + 3) .none .none → itAt b1 h' s.heap.objs.size l1 0 → itAt b2 h' (s.heap.objs.size + 1) l2 0 → (∀ c o, s.heap.get? c = some o → h'.get? c = some o) → Q (.ref (s.heap.objs.size + 4)) { s with heap := h' }) :
    wpAny (model prog w) A (call (.type "zip") [.ref l1, .ref l2]) Q E s := by
  refine callType_new F.called_zip (by decide) (F.typeCall_zip_2 _ _) (F.newCall_zip_2 _ _) (fun obj => F.args_object_init_3 obj _ _) F.entry_zip_new (meets_zip_new2 b1 b2 l1 l2 xs ys) ⟨hl1, hl2, ?_⟩
  have n1 : (zz1 s.heap b1 l1).objs.size = s.heap.objs.size + 1 := Heap.size_push ..
  have n2 : (zz2 s.heap b1 b2 l1 l2).objs.size = s.heap.objs.size + 2 := by rw [Heap.size_push, n1]
  have n3 : (zz3 s.heap b1 b2 l1 l2).objs.size = s.heap.objs.size + 3 := by rw [Heap.size_push, n2]
  have n4 : (zz4 s.heap b1 b2 l1 l2).objs.size = s.heap.objs.size + 4 := by rw [Heap.size_push, n3]
  have u1 : ∀ c o, s.heap.get? c = some o → (zz1 s.heap b1 l1).get? c = some o := fun c o e => Heap.get?_push_of_some _ e
  have u2 : ∀ c o, (zz1 s.heap b1 l1).get? c = some o → (zz2 s.heap b1 b2 l1 l2).get? c = some o := fun c o e => Heap.get?_push_of_some _ e
  have u3 : ∀ c o, (zz2 s.heap b1 b2 l1 l2).get? c = some o → (zz3 s.heap b1 b2 l1 l2).get? c = some o := fun c o e => Heap.get?_push_of_some _ e
  have u4 : ∀ c o, (zz3 s.heap b1 b2 l1 l2).get? c = some o → (zz4 s.heap b1 b2 l1 l2).get? c = some o := fun c o e => Heap.get?_push_of_some _ e
  have u5 : ∀ c o, (zz4 s.heap b1 b2 l1 l2).get? c = some o → (zz5 s.heap b1 b2 l1 l2).get? c = some o := fun c o e => Heap.get?_push_of_some _ e
  have g5 : (zz5 s.heap b1 b2 l1 l2).get? (zz4 s.heap b1 b2 l1 l2).objs.size = some _ := Heap.get?_push_size _ rfl
  have g4 : (zz5 s.heap b1 b2 l1 l2).get? (zz3 s.heap b1 b2 l1 l2).objs.size = some _ := u5 _ _ (Heap.get?_push_size _ rfl)
  have g3 : (zz5 s.heap b1 b2 l1 l2).get? (zz2 s.heap b1 b2 l1 l2).objs.size = some _ := u5 _ _ (u4 _ _ (Heap.get?_push_size _ rfl))
  have g2 : (zz5 s.heap b1 b2 l1 l2).get? (zz1 s.heap b1 l1).objs.size = some _ := u5 _ _ (u4 _ _ (u3 _ _ (Heap.get?_push_size _ rfl)))
  have g1 : (zz5 s.heap b1 b2 l1 l2).get? s.heap.objs.size = some _ := u5 _ _ (u4 _ _ (u3 _ _ (u2 _ _ (Heap.get?_push_size _ rfl))))
  show _ ∧ _
  rw [n2, n3, n4] at g5; rw [n1, n2] at g3; rw [n3] at g4; rw [n1] at g2; rw [n4]
  exact ⟨⟨_, g5, rfl⟩, q _ g5 g3 g4 (it_new g1) (it_new g2) fun c o e => u5 _ _ (u4 _ _ (u3 _ _ (u2 _ _ (u1 _ _ e))))⟩
end
end PySem
namespace L3
open PySem PySem.Spec PyProof.Rows L2
/-! ### the layer's zip -/
noncomputable def SqB (b : Bool) (K : PySem.W.Frag) (H : Hp) (a : Addr) (xs : List V) : Prop := match b with
  | true => SqT K H a xs
  | false => SqL K H a xs
noncomputable def Itz (K : PySem.W.Frag) (b1 b2 : Bool) (a c : Addr) : It :=
  ⟨fun i H => ∃ xs ys x y, SqB b1 K H a xs ∧ SqB b2 K H c ys ∧ xs[i]? = some x ∧ ys[i]? = some y,
   fun i H v H' => ∃ p x y, H p = none ∧ v = .ref p ∧ (∀ xs, SqB b1 K H a xs → xs[i]? = some x) ∧ (∀ ys, SqB b2 K H c ys → ys[i]? = some y) ∧ H' = upd H p (.tup [x, y]),
   fun i H => ∃ xs ys, SqB b1 K H a xs ∧ SqB b2 K H c ys ∧ (xs.length ≤ i ∨ ys.length ≤ i)⟩
theorem lst_inj {X : Cx} {pins : List (Addr × Obj)} {σ : L2.St} {H : Hp} {s : Shared} {a : Addr} {xs ys : List V} (I : Inv X pins σ H s) (h1 : SqL X.K H a xs) (h2 : SqL X.K H a ys) : xs = ys := by
  obtain ⟨its, r1, ⟨o, k, e1, _, n, d1⟩, _⟩ := I.list h1
  obtain ⟨its2, r2, ⟨o2, k2, e2, _, n2, d2⟩, _⟩ := I.list h2
  rw [e1] at e2
  cases e2
  have : its = its2 := by
    have q : its.toArray = its2.toArray := by injection d1.symm.trans d2
    simpa using q
  subst this
  exact r1.inj r2
theorem sqB_at {X : Cx} {pins : List (Addr × Obj)} {σ : L2.St} {H : Hp} {s : Shared} {b : Bool} {a : Addr} {xs : List V} (I : Inv X pins σ H s) (h : SqB b X.K H a xs) : ∃ its, Vals xs its ∧ sqAt b s.heap a its.toArray := by
  cases b with
  | true => obtain ⟨its, rv, p, hz⟩ := I.tuple h; exact ⟨its, rv, p⟩
  | false => obtain ⟨its, rv, p, hz⟩ := I.list h; exact ⟨its, rv, p.isList⟩
theorem sqB_inj {X : Cx} {pins : List (Addr × Obj)} {σ : L2.St} {H : Hp} {s : Shared} {b : Bool} {a : Addr} {xs ys : List V} (I : Inv X pins σ H s) (h1 : SqB b X.K H a xs) (h2 : SqB b X.K H a ys) : xs = ys := by
  cases b with
  | true => exact tup_inj I h1 h2
  | false => exact lst_inj I h1 h2
theorem turnedAll {X : Cx} {pins : List (Addr × Obj)} {σ : L2.St} {H : Hp} {s : Shared} {h' : Heap} {t' : Nat} {ch : List Addr} (I : Inv X pins σ H s) (hf : ∀ b ∈ ch, FpOk X pins H b)
    (k : ∀ b u, b ∉ ch → s.heap.get? b = some u → h'.get? b = some u) : Inv X pins σ H { s with heap := h', toks := t' } := by
  have nch : ∀ b u, H b = some u → b ∉ ch := fun b u e z => by rw [(hf b z).1] at e; cases e
  refine I.step (g' := s.gens) (d' := s.drawn) (ch := ch) (fun b hb => ?_) (fun b u _ _ hc e _ => k b u hc e) (fun b u _ _ hc e _ => ⟨u.slots, k b u hc e⟩) (fun _ _ _ _ n => n)
    (fun b u hc e => ⟨u, k b u hc e⟩) (fun _ _ e => e) (fun _ _ _ e => e) (fun b ps e => ⟨#[], by rw [e]; simp⟩) (fun m hm => ?_) (fun b u e => ?_) I.bare
  · obtain ⟨_, h2, _, h4, h5, h6⟩ := hf b hb
    exact ⟨h4, h2, h5, h6⟩
  · obtain ⟨ob, es, ep, ho, r⟩ := hm
    exact ⟨ob, es, ep, k _ ob (fun z => (hf _ z).2.1 rfl) ho, r⟩
  · refine (I.hok b u e).stay (fun c v hc q => k c v ?_ q) (fun _ q => q) fun _ _ q => q
    rcases hc with z | z
    · rw [z]; exact nch b u e
    · exact nch c _ z
theorem turn_zip {P : Program} {w : World} {K : PySem.W.Frag} {elts : List Expr} {kk} {tp : Pos} (b1 b2 : Bool) (z TI TO i1 i2 l1 l2 : Addr) (D : ZipApart z TI TO i1 i2 l1 l2) :
    Turn P w K (.Tuple elts kk tp) (Itz K b1 b2 l1 l2) [z, TI, TO, i1, i2] z (fun i h => IsZip h z TI TO .none ∧ IsPair h TI (.ref i1) (.ref i2) ∧ (∃ a b, IsPair h TO a b) ∧ itAt b1 h i1 l1 i ∧ itAt b2 h i2 l2 i) where
  mem := by simp
  obj := fun i h st b hb => by
    obtain ⟨hz, hI, ⟨a, c, hO⟩, h1, h2⟩ := st
    simp only [List.mem_cons, List.not_mem_nil, or_false] at hb
    rcases hb with rfl | rfl | rfl | rfl | rfl
    · exact ⟨_, hz, fun v q => by cases (show Data.fields _ = Data.cell v from q)⟩
    · exact ⟨_, hI, fun v q => by cases (show Data.seq _ _ = Data.cell v from q)⟩
    · exact ⟨_, hO, fun v q => by cases (show Data.seq _ _ = Data.cell v from q)⟩
    · exact h1.live
    · exact h2.live
  keep := fun i h h' st k => by
    obtain ⟨hz, hI, ⟨a, c, hO⟩, h1, h2⟩ := st
    exact ⟨k z (by simp) _ hz, k TI (by simp) _ hI, ⟨a, c, k TO (by simp) _ hO⟩, h1.to fun o q => k i1 (by simp) o q, h2.to fun o q => k i2 (by simp) o q⟩
  item := by
    intro X hP hw hK hc i pins s σ H E I hf st hg
    subst hP hw hK
    obtain ⟨hz, hI, ⟨a, c, hO⟩, h1, h2⟩ := st
    obtain ⟨xs, ys, x, y, sx, sy, hx, hy⟩ := hg
    obtain ⟨its, rx, px⟩ := sqB_at I sx
    obtain ⟨jts, ry, py⟩ := sqB_at I sy
    obtain ⟨u, hu, ru⟩ := rx.get hx
    obtain ⟨t, ht, rt⟩ := ry.get hy
    refine pyNext_zip2 (x := u) (y := t) D hz hI hO h1 h2 px py (by simpa using hu) (by simpa using ht) fun k z1 o1 g1 g2 pr sz kp => ⟨_, rfl, ?_⟩
    refine wpAny_letOwnedTupleGo_zip (s := { s with heap := k }) z1 fun h2' z2 e2 => ?_
    have hzl : z < s.heap.objs.size := Heap.lt_size hz
    have hIl : TI < s.heap.objs.size := Heap.lt_size hI
    have hOl : TO < s.heap.objs.size := Heap.lt_size hO
    have h1l : i1 < s.heap.objs.size := by obtain ⟨_, q, _⟩ := h1.live; exact Heap.lt_size q
    have h2l : i2 < s.heap.objs.size := by obtain ⟨_, q, _⟩ := h2.live; exact Heap.lt_size q
    have hn : H s.heap.objs.size = none := I.hok.fresh (Nat.le_refl _)
    have kk : ∀ b o, b ∉ [z, TI, TO, i1, i2] → s.heap.get? b = some o → h2'.get? b = some o := fun b o hb q => by
      simp only [List.mem_cons, List.not_mem_nil, or_false, not_or] at hb
      exact (e2.2 b hb.1).trans (kp b o hb.1 hb.2.2.1 hb.2.2.2.1 hb.2.2.2.2 q)
    have hT2 : h2'.get? s.heap.objs.size = some { cls := .type "tuple", data := .seq #[u, t] } := (e2.2 _ (Nat.ne_of_gt hzl)).trans pr
    have I2 : Inv X pins σ (upd H s.heap.objs.size (.tup [x, y])) { s with heap := h2' } :=
      I.turnedLaid (t' := s.toks) (ch := [z, TI, TO, i1, i2]) hf kk (Nat.le_refl _) ⟨by show 2 ≤ sizeLine; decide, [u, t], .cons ru (.cons rt .nil), ⟨_, hT2, rfl, _, rfl⟩⟩
    have oth : ∀ b o, b ≠ z → k.get? b = some o → h2'.get? b = some o := fun b o n q => (e2.2 b n).trans q
    refine ⟨.ref s.heap.objs.size, _, I2, rfl, ⟨_, x, y, hn, rfl, fun zs hs => by rw [sqB_inj I hs sx]; exact hx, fun zs hs => by rw [sqB_inj I hs sy]; exact hy, rfl⟩,
      ⟨z2, oth _ _ D.TIz (kp _ _ D.TIz D.TITO D.TIi1 D.TIi2 hI), ⟨_, _, oth _ _ D.TOz o1⟩, g1.to fun o q => oth _ _ D.i1z q, g2.to fun o q => oth _ _ D.i2z q⟩, fun b hb => ?_⟩
    have hb2 : b < s.heap.objs.size := by
      simp only [List.mem_cons, List.not_mem_nil, or_false] at hb
      rcases hb with rfl | rfl | rfl | rfl | rfl <;> assumption
    rw [upd_ne (Nat.ne_of_lt hb2)]
    exact (hf b hb).1
  done := by
    intro X hP hw hK hc i pins s σ H E I hf st hg
    subst hP hw hK
    obtain ⟨hz, hI, ⟨a, c, hO⟩, h1, h2⟩ := st
    obtain ⟨xs, ys, sx, sy, hxy⟩ := hg
    obtain ⟨its, rx, px⟩ := sqB_at I sx
    obtain ⟨jts, ry, py⟩ := sqB_at I sy
    have hl1 := rx.length
    have hl2 := ry.length
    have hd : its.toArray[i]? = none ∨ jts.toArray[i]? = none := by
      rcases hxy with q | q
      · exact .inl (by simp; omega)
      · exact .inr (by simp; omega)
    refine pyNext_zipE (I.ok.hd hc) D hz hI hO h1 h2 px py hd fun k kp => ⟨rfl, ?_⟩
    exact turnedAll I (t' := s.toks) (ch := [z, TI, TO, i1, i2]) hf fun b o hb q => by
      simp only [List.mem_cons, List.not_mem_nil, or_false, not_or] at hb
      exact kp b o hb.1 hb.2.2.1 hb.2.2.2.1 hb.2.2.2.2 q
  self := fun _ _ _ _ _ st h => wpAny_pyIter_zip st.1 h
theorem zip_apart (n l1 l2 : Nat) (h1 : l1 < n) (h2 : l2 < n) : ZipApart (n + 4) (n + 2) (n + 3) n (n + 1) l1 l2 := by constructor <;> (show (_ : Nat) ≠ _; omega)
noncomputable def iZipA (K : PySem.W.Frag) (ta : TA) : TI := fun σ H R => ta σ H fun vs H1 => ∃ a c b1 b2, vs = [.ref a, .ref c] ∧ (∃ xs, SqB b1 K H1 a xs) ∧ (∃ ys, SqB b2 K H1 c ys) ∧ R (Itz K b1 b2 a c) H1
theorem boot_zip : bootBuiltins "zip" = some (.type "zip") := by decide +kernel
theorem pi_zip {X : Cx} {l m : Expr} {ta : TA} {p pos tp : Pos} {elts : List Expr} {kk} (hg : Gl X "zip") (hm : X.mg "zip" = none) (ha : PA X [l, m] ta) (hs : starEach [l, m] X.env = (false, eval l X.env) :: starEach [m] X.env := by rfl) (hp : (backTo pos (starEach [m] X.env)).any (·.1) = false := by rfl) :
    PI X (.Tuple elts kk tp) (.Call (.Name "zip" p) [l, m] [] pos) (iZipA X.K ta) := by
  intro pins s σ H R I h
  refine Call_ (ld_blt I hg hm boot_zip (PyProof.Rows.callWith_type1 (thn (ha pos pins s σ H _ I h) fun us s1 ⟨vs, H1, I1, r1, q1⟩ => ?_) hs hp))
  obtain ⟨a, c, b1, b2, e, ⟨xs, sx⟩, ⟨ys, sy⟩, q⟩ := q1
  subst e
  obtain ⟨u, t, rfl, ru, rt⟩ := vals2 r1
  cases ru; cases rt
  obtain ⟨its, rx, px⟩ := sqB_at I1 sx
  obtain ⟨jts, ry, py⟩ := sqB_at I1 sy
  have fp : ∀ b ∈ [s1.heap.objs.size + 4, s1.heap.objs.size + 2, s1.heap.objs.size + 3, s1.heap.objs.size, s1.heap.objs.size + 1], FpOk X pins H1 b := fun b hb => by
    have hb2 : s1.heap.objs.size ≤ b := by
      simp only [List.mem_cons, List.not_mem_nil, or_false] at hb
      have hb' : (b : Nat) = s1.heap.objs.size + 4 ∨ (b : Nat) = s1.heap.objs.size + 2 ∨ (b : Nat) = s1.heap.objs.size + 3 ∨ (b : Nat) = s1.heap.objs.size ∨ (b : Nat) = s1.heap.objs.size + 1 := hb
      show (s1.heap.objs.size : Nat) ≤ b
      omega
    exact I1.fpOk hb2 (I1.hok.fresh hb2)
  refine call_zipS px py fun h1 z1 p1 p2 t1 t2 hk => ?_
  refine wpAny_pyIter_zip (s := { s1 with heap := h1 }) z1 ?_
  exact ⟨s1.heap.objs.size + 4, _, _, _, H1, rfl, I1.kept (t' := s1.toks) hk, turn_zip b1 b2 _ _ _ _ _ a c (zip_apart _ _ _ px.lt py.lt), ⟨z1, p1, ⟨_, _, p2⟩, t1, t2⟩, fp, q⟩
/-! arguments, without unfolding what they are -/
noncomputable def isSt : Expr → Bool
  | .Starred _ _ => true
  | _ => false
theorem star_cons (e : Expr) (es : List Expr) (env : Env) (h : isSt e = false) : starEach (e :: es) env = (false, eval e env) :: starEach es env := by
  cases e <;> first | rfl | cases h
theorem paC {X : Cx} {e : Expr} {es : List Expr} {te : TE} {t : TA} (ha : PE X e te) (hr : PA X es t) (hs : isSt e = false := by rfl) : PA X (e :: es) (tCons te t) := pa_cons ha hr (star_cons e es X.env hs)
section
variable {X : Cx} {a b c e : Expr} {ta tb tc td : TE} {k : Nat} {pos : Pos}
end
/-! the function -/
noncomputable def zipD : List D → List D → List D
  | x :: r, y :: q => .tuple [x, y] :: zipD r q
  | _, _ => []
theorem zipD_len : ∀ (xs ys : List D), (zipD xs ys).length = min xs.length ys.length
  | [], _ => by simp [zipD]
  | _ :: _, [] => by simp [zipD]
  | _ :: r, _ :: q => by simp only [zipD, List.length_cons, zipD_len r q]; omega
theorem zipD_get : ∀ (xs ys : List D) (i : Nat), (zipD xs ys)[i]? = (xs[i]?).bind fun x => (ys[i]?).map fun y => .tuple [x, y]
  | [], _, _ => by simp [zipD]
  | x :: r, [], i => by cases i <;> simp [zipD]
  | x :: r, y :: q, 0 => by simp [zipD]
  | x :: r, y :: q, i + 1 => by simp only [zipD, List.getElem?_cons_succ]; exact zipD_get r q i
section
variable {K : PySem.W.Frag} {E : XK} {B O O' : Own} {H0 H H' : Hp} {σ : L2.St} {ρ ρ' : PEnv} {v : V}
noncomputable def SqBO (b : Bool) (O : Own) (K : PySem.W.Frag) (H : Hp) (a : Addr) (xs : List V) : Prop := match b with
  | true => SqTO O K H a xs
  | false => SqLO O K H a xs
theorem SqBO.ev {b : Bool} {a : Addr} {xs : List V} (h : SqBO b O K H a xs) (e : Ev O H O' H') : SqBO b O' K H' a xs := by
  cases b with
  | true => exact SqTO.ev h e
  | false => exact SqLO.ev h e
theorem SqBO.at {b : Bool} {a : Addr} {xs : List V} (h : SqBO b O K H a xs) : SqB b K H a xs := by
  cases b with
  | true => exact (show SqTO O K H a xs from h).1
  | false => exact (show SqLO O K H a xs from h).1.sq
theorem it_zip {b1 b2 : Bool} {a c : Addr} {xs ys : List V} {ds es : List D} (h : SqBO b1 O K H a xs) (hd : DVs O K H xs ds) (g : SqBO b2 O K H c ys) (gd : DVs O K H ys es) : ItOk K (Itz K b1 b2 a c) O H (zipD ds es) := by
  intro O' H' e n
  have h' := h.ev e
  have hd' := hd.ev e
  have g' := g.ev e
  have gd' := gd.ev e
  rw [zipD_len]
  refine ⟨fun i hi => ?_, ⟨xs, ys, h'.at, g'.at, ?_⟩⟩
  · have i1 : i < ds.length := by omega
    have i2 : i < es.length := by omega
    obtain ⟨x, hx, dx⟩ := hd'.get (List.getElem?_eq_getElem i1)
    obtain ⟨y, hy, dy⟩ := gd'.get (List.getElem?_eq_getElem i2)
    refine ⟨⟨xs, ys, x, y, h'.at, g'.at, hx, hy⟩, ?_⟩
    rintro t H'' ⟨p, x', y', hp, rfl, hx', hy', rfl⟩
    have q1 := hx' xs h'.at
    have q2 := hy' ys g'.at
    rw [hx] at q1
    rw [hy] at q2
    cases q1; cases q2
    refine ⟨same_upd hp _, .tuple [ds[i], es[i]], ?_, .tup ⟨SqT.of upd_same, fun q => absurd q (n p hp)⟩ (.cons (dx.ev (Ev.grow (same_upd hp _))) (.cons (dy.ev (Ev.grow (same_upd hp _))) .nil))⟩
    rw [zipD_get, List.getElem?_eq_getElem i1, List.getElem?_eq_getElem i2]
    rfl
  · rw [hd.length, gd.length]
    omega
theorem seqBO {d : D} {ds : List D} (h : DV O K H v d) (q : asSeq d = some ds) : ∃ b a xs, v = .ref a ∧ SqBO b O K H a xs ∧ DVs O K H xs ds := by
  cases h with
  | tup h hs => cases q; exact ⟨true, _, _, rfl, h, hs⟩
  | lst h hs => cases q; exact ⟨false, _, _, rfl, h, hs⟩
  | _ => cases q
noncomputable def iZip (fa : FA) : FI := fun ρ => (fa ρ).bind fun a => (Res.ofO (toDs a.2 a.1)).bind fun b => match b.1 with
  | [d, e] => (Res.ofO (asSeq d)).bind fun ds => (Res.ofO (asSeq e)).bind fun es => .ok (zipD ds es, b.2)
  | _ => .bad
theorem io_zip {ta : TA} {fa : FA} (h : AO K E ta fa) : IO K E (iZipA K ta) (iZip fa) := by
  intro B H0 O σ H ρ R' R w
  refine h B H0 O σ H ρ _ R (w.bind.imp fun a w1 O1 vs H1 e1 R1 p1 => ?_)
  obtain ⟨⟨ds, ρ2⟩, q, w1⟩ := w1.ofO
  obtain ⟨O2, e2, R2, dv⟩ := tos_ok R1 p1 q
  dsimp only at w1
  cases dv with
  | nil => exact w1.elim
  | cons h1 h2 =>
    cases h2 with
    | nil => exact w1.elim
    | cons h2 h3 =>
      cases h3 with
      | cons _ _ => exact w1.elim
      | nil =>
        obtain ⟨es, qs, w1⟩ := WR.ofO w1
        obtain ⟨fs, qt, w1⟩ := WR.ofO w1
        obtain ⟨b1, a1, xs, rfl, s1, d1⟩ := seqBO h1 qs
        obtain ⟨b2, a2, ys, rfl, s2, d2⟩ := seqBO h2 qt
        exact ⟨a1, a2, b1, b2, rfl, ⟨_, s1.at⟩, ⟨_, s2.at⟩, w1 O2 _ H1 (e1.trans e2) R2 (it_zip s1 d1 s2 d2)⟩
/-! ### texts -/
noncomputable def ixS (d e : D) : Option RV := match d, e with
  | .str z, .int i => if z.length ≤ 1000000 then (atI z.cps.toList i).map fun c => .fz (.str ⟨#[c]⟩) else none
  | _, _ => none
theorem opp_ixS : OpP K (rIx K) ixS := by
  intro O H x y dx dy rv Q n hx hy e q
  unfold ixS at e
  split at e
  · split at e
    · rename_i z i hl
      cases qa : atI z.cps.toList i with
      | none => rw [qa] at e; cases e
      | some c =>
        rw [qa] at e
        cases e
        cases hx; cases hy
        exact .inr (.inr ⟨z, i, c, rfl, rfl, le1e6 hl, qa, q.at (.str _)⟩)
    · cases e
  · cases e
noncomputable def lenS : List D → Option RV
  | [.str z] => if z.length ≤ 1000000 then some (.fz (.int z.length)) else none
  | _ => none
theorem cb_lenS : CbP K (fun xs H Q => ∃ x n, xs = [x] ∧ LenV K x H n ∧ Q (.int n) H) lenS := by
  intro O H xs ds rv Q n hp e q
  unfold lenS at e
  split at e
  · split at e
    · rename_i z hl
      cases e
      cases hp with
      | cons h1 h2 =>
        cases h2; cases h1
        exact ⟨_, z.length, rfl, ⟨le1e6 hl, rfl⟩, q.at (.int _)⟩
    · cases e
  · cases e
noncomputable def rStr (g : Str → Str → Bool) : R2 := fun x y H Q => ∃ i j, x = .str i ∧ y = .str j ∧ Q (.bl (g i j)) H
noncomputable def fS (g : Str → Str → Bool) : D → D → Option RV
  | .str i, .str j => some (.fz (.bool (g i j)))
  | _, _ => none
theorem opp_s {g : Str → Str → Bool} : OpP K (rStr g) (fS g) := by
  intro O H x y dx dy rv Q n hx hy e q
  unfold fS at e
  split at e
  · cases e
    cases hx; cases hy
    exact ⟨_, _, rfl, rfl, q.at (.bl _)⟩
  · cases e
noncomputable def leSt (i j : Str) : Bool := !decide (j.cps.toList < i.cps.toList)
theorem op_leS {X : Cx} : OpR X (compareOp .LtE) (rStr leSt) := by
  intro pins s σ H x y v u Q I rx ry h
  obtain ⟨i, j, rfl, rfl, q⟩ := h
  obtain ⟨t, rfl⟩ := rx
  obtain ⟨t', rfl⟩ := ry
  exact PySem.P.le_str (fin_bl I q rfl)
noncomputable def leS := fS leSt
theorem opp_leS : OpP K (rStr leSt) leS := opp_s
/-! ### a def that calls itself -/
noncomputable def badF : FN := fun _ => .bad
theorem ok_bad {P : Program} {w : World} {mg : Str → Option Value} {base : Heap} {k n : Nat} {f : Addr} {fd : FuncData} {ps : List Str} (hn : ps.length = n) : FnOk P w K mg base CX0 k f fd ps (spP K n badF) :=
  ⟨fun vs H Q E h => h.1.trans hn.symm, fun A outer s H args us vs Q E _ _ _ _ h => by obtain ⟨_, B, ds, _, _, w⟩ := h; exact w.elim⟩
end
end L3
namespace L3
open PySem L2
/-! ## what a statement leads to: behind it, at continue, at return -/
noncomputable def GoD (N C : PEnv → Prop) (T : RV → Prop) : Res Fl → Prop
  | .ok (.nx ρ) => N ρ
  | .ok (.ct ρ) => C ρ
  | .ok (.rt v) => T v
  | _ => False
/-- never unfolded by chance -/
structure Go (r : Res Fl) (N C : PEnv → Prop) (T : RV → Prop) : Prop where
  out : GoD N C T r
section
variable {ρ ρ1 ρ2 ρ3 : PEnv} {f g : FS} {fe : FE} {pv : PV} {d : D} {rv : RV} {ds : List D} {N C : PEnv → Prop} {T : RV → Prop}
theorem Go.eq {r r' : Res Fl} (e : r = r') (h : Go r' N C T) : Go r N C T := by rw [e]; exact h
theorem Go.imp {r : Res Fl} {N' C' : PEnv → Prop} {T' : RV → Prop} (h : Go r N C T) (hN : ∀ ρ, N ρ → N' ρ) (hC : ∀ ρ, C ρ → C' ρ) (hT : ∀ v, T v → T' v) : Go r N' C' T' := by
  refine ⟨?_⟩
  have h := h.out
  cases r with
  | bad => exact h
  | er x => exact h
  | ok fl =>
    cases fl with
    | nx r => exact hN _ h
    | ct r => exact hC _ h
    | rt v => exact hT _ h
    | bk r => exact h
theorem go_seq (h : Go (f ρ) (fun r => Go (g r) N C T) C T) : Go (sSeq f g ρ) N C T := by
  refine ⟨?_⟩
  have h := h.out
  unfold sSeq
  cases q : f ρ with
  | bad => rw [q] at h; exact h.elim
  | er x => rw [q] at h; exact h.elim
  | ok fl =>
    rw [q] at h
    cases fl with
    | nx r => exact (show Go (g r) N C T from h).out
    | ct r => exact h
    | rt v => exact h
    | bk r => exact h.elim
theorem go_if {c : FT} {b : Bool} (hc : c ρ = .ok (b, ρ1)) (ht : b = true → Go (f ρ1) N C T) (hf : b = false → Go (g ρ1) N C T) : Go (sIf c f g ρ) N C T := by
  unfold sIf
  rw [hc, Res.bind_ok]
  cases b with
  | true => exact ht rfl
  | false => exact hf rfl
theorem go_asg {gt : FG} (he : fe ρ = .ok (pv, ρ1)) (hg : gt pv ρ1 = .ok ρ2) (h : N ρ2) : Go (sAsg fe gt ρ) N C T := .eq (st_asg he hg rfl) ⟨h⟩
theorem go_drop (he : fe ρ = .ok (pv, ρ1)) (h : N ρ1) : Go (sDrop fe ρ) N C T := .eq (st_drop he) ⟨h⟩
theorem go_ret (he : fe ρ = .ok (pv, ρ1)) (hr : retV ρ1 pv = some rv) (h : T rv) : Go (sRet fe ρ) N C T := .eq (st_ret he hr) ⟨h⟩
theorem go_next (h : N ρ) : Go (sNext ρ) N C T := ⟨h⟩
theorem forP_go {gt : FG} {b : FS} (I : Nat → PEnv → Prop) : ∀ (ds : List D) (k : Nat) (ρ : PEnv), I k ρ → (∀ i d ρ, ds[i]? = some d → I (k + i) ρ → ∃ ρ1, gt (.fz d) ρ = .ok ρ1 ∧ Go (b ρ1) (I (k + i + 1)) (I (k + i + 1)) T) → Go (forP gt b ds ρ) (I (k + ds.length)) C T
  | [], k, ρ, h0, _ => ⟨h0⟩
  | d :: r, k, ρ, h0, hs => by
    obtain ⟨ρ1, h1, h2⟩ := hs 0 d ρ rfl h0
    have h2 := h2.out
    have rest : ∀ ρ', I (k + 1) ρ' → Go (forP gt b r ρ') (I (k + (r.length + 1))) C T := fun ρ' h => by
      have e : k + (r.length + 1) = k + 1 + r.length := by omega
      rw [e]
      refine forP_go I r (k + 1) ρ' h fun i d' ρ'' hi hI => ?_
      have e : k + 1 + i = k + (i + 1) := by omega
      rw [e] at hI ⊢
      exact hs (i + 1) d' ρ'' (by simpa using hi) hI
    refine ⟨?_⟩
    show GoD _ _ _ ((gt (.fz d) ρ).bind _)
    rw [h1, Res.bind_ok]
    cases q : b ρ1 with
    | bad => rw [q] at h2; exact h2.elim
    | er x => rw [q] at h2; exact h2.elim
    | ok fl =>
      rw [q] at h2
      cases fl with
      | nx r => exact (rest _ h2).out
      | ct r => exact (rest _ h2).out
      | rt v => exact h2
      | bk r => exact h2.elim
theorem go_for {fi : FI} {gt : FG} {b : FS} (I : Nat → PEnv → Prop) (hi : fi ρ = .ok (ds, ρ1)) (h0 : I 0 ρ1) (hs : ∀ i d ρ, ds[i]? = some d → I i ρ → ∃ ρ1, gt (.fz d) ρ = .ok ρ1 ∧ Go (b ρ1) (I (i + 1)) (I (i + 1)) T) (hN : ∀ ρ', I ds.length ρ' → N ρ') : Go (sFor fi gt b ρ) N C T := by
  have := forP_go (C := C) (T := T) I ds 0 ρ1 h0 (by simpa using hs)
  rw [Nat.zero_add] at this
  exact .eq (for_of hi) (this.imp hN (fun _ h => h) fun _ h => h)
theorem go_run {n : Nat} {g : FS} {T : RV → Prop} (hρ : ds.map (fun d => some (.fz d)) ++ List.replicate (n - ds.length) none = ρ) (h : Go (g ρ) (fun _ => T (.fz .none)) (fun _ => False) T) : ∃ rv, runF n g ds = .ok rv ∧ T rv := by
  have h := h.out
  unfold runF
  rw [hρ]
  cases q : g ρ with
  | bad => rw [q] at h; exact h.elim
  | er x => rw [q] at h; exact h.elim
  | ok fl =>
    rw [q] at h
    cases fl with
    | nx r => exact ⟨_, rfl, h⟩
    | ct r => exact h.elim
    | rt v => exact ⟨_, rfl, h⟩
    | bk r => exact h.elim
theorem go_val {n : Nat} {g : FS} {v : RV} (hρ : ds.map (fun d => some (.fz d)) ++ List.replicate (n - ds.length) none = ρ) (h : Go (g ρ) (fun _ => RV.fz .none = v) (fun _ => False) (fun r => r = v)) : runF n g ds = .ok v := by
  obtain ⟨rv, h1, h2⟩ := go_run (T := fun r => r = v) hρ h
  rw [h1, h2]
theorem gs_asg {gt : FG} (he : fe ρ = .ok (pv, ρ1)) (hg : gt pv ρ1 = .ok ρ2) (hn : ρ2 = ρ3) (h : Go (g ρ3) N C T) : Go (sSeq (sAsg fe gt) g ρ) N C T := .eq (seq_nx (st_asg he hg hn)) h
theorem gl_asg {gt : FG} (he : fe ρ = .ok (pv, ρ1)) (hg : gt pv ρ1 = .ok ρ2) (hn : ρ2 = ρ3) (h : N ρ3) : Go (sAsg fe gt ρ) N C T := .eq (st_asg he hg hn) ⟨h⟩
theorem gs_drop (he : fe ρ = .ok (pv, ρ1)) (h : Go (g ρ1) N C T) : Go (sSeq (sDrop fe) g ρ) N C T := .eq (seq_nx (st_drop he)) h
theorem gs_ret (he : fe ρ = .ok (pv, ρ1)) (hr : retV ρ1 pv = some rv) (h : T rv) : Go (sSeq (sRet fe) g ρ) N C T := .eq (seq_rt (st_ret he hr)) ⟨h⟩
theorem gs_next (h : Go (g ρ) N C T) : Go (sSeq sNext g ρ) N C T := .eq rfl h
theorem seq_assoc {f1 f2 : FS} : sSeq (sSeq f1 f2) g ρ = sSeq f1 (sSeq f2 g) ρ := by
  unfold sSeq
  cases f1 ρ with
  | bad => rfl
  | er x => rfl
  | ok fl => cases fl <;> rfl
theorem gs_seq {f1 f2 : FS} (h : Go (sSeq f1 (sSeq f2 g) ρ) N C T) : Go (sSeq (sSeq f1 f2) g ρ) N C T := .eq seq_assoc h
theorem gs_if {c : FT} {f1 f2 : FS} {b : Bool} (hc : c ρ = .ok (b, ρ1)) (ht : b = true → Go (sSeq f1 g ρ1) N C T) (hf : b = false → Go (sSeq f2 g ρ1) N C T) : Go (sSeq (sIf c f1 f2) g ρ) N C T := by
  have e : sSeq (sIf c f1 f2) g ρ = if b = true then sSeq f1 g ρ1 else sSeq f2 g ρ1 := by
    unfold sSeq sIf
    rw [hc, Res.bind_ok]
    cases b <;> rfl
  refine .eq e ?_
  cases b with
  | true => exact ht rfl
  | false => exact hf rfl
theorem gs_for {fi : FI} {gt : FG} {b : FS} (I : Nat → PEnv → Prop) (hi : fi ρ = .ok (ds, ρ1)) (h0 : I 0 ρ1) (hs : ∀ i d ρ, ds[i]? = some d → I i ρ → ∃ ρ1, gt (.fz d) ρ = .ok ρ1 ∧ Go (b ρ1) (I (i + 1)) (I (i + 1)) T) (hN : ∀ ρ', I ds.length ρ' → Go (g ρ') N C T) : Go (sSeq (sFor fi gt b) g ρ) N C T :=
  go_seq (go_for I hi h0 hs hN)
/-! a comprehension whose items are only known by what holds of them -/
theorem compP_map {gt : FG} {ft : FT} {fe : FE} (I : PEnv → Prop) (P : Nat → D → Prop) : ∀ (ds : List D) (k : Nat) (ρ : PEnv) (acc : List D), I ρ → acc.length + ds.length ≤ 1000000 → (∀ i d, ds[i]? = some d → ∀ ρ, I ρ → ∃ x ρ', compT gt ft fe d ρ = .ok (some x, ρ') ∧ I ρ' ∧ P (k + i) x) →
    ∃ xs, compP gt ft fe ds ρ acc = .ok (acc ++ xs) ∧ xs.length = ds.length ∧ ∀ i x, xs[i]? = some x → P (k + i) x
  | [], k, ρ, acc, _, _, _ => ⟨[], by show Res.ok acc = _; simp, rfl, fun i x h => by simp at h⟩
  | d :: r, k, ρ, acc, h0, hl, hs => by
    obtain ⟨x, ρ', h1, h2, h3⟩ := hs 0 d rfl ρ h0
    rw [List.length_cons] at hl
    obtain ⟨xs, g1, g2, g3⟩ := compP_map I P r (k + 1) ρ' (acc ++ [x]) h2 (by rw [List.length_append]; simp; omega) fun i d' hi ρ'' hI => by
      have e : k + 1 + i = k + (i + 1) := by omega
      rw [e]
      exact hs (i + 1) d' (by simpa using hi) ρ'' hI
    refine ⟨x :: xs, ?_, by rw [List.length_cons, g2, List.length_cons], fun i y hy => ?_⟩
    · rw [compP_step h1 (by omega)]
      show compP gt ft fe r ρ' (acc ++ [x]) = _
      rw [g1, List.append_assoc]
      rfl
    · cases i with
      | zero => cases (show some x = some y from hy); exact h3
      | succ i =>
        have e : k + (i + 1) = k + 1 + i := by omega
        rw [e]
        exact g3 i y (by simpa using hy)
theorem comp_map {gt : FG} {ft : FT} {fe : FE} (I : PEnv → Prop) (P : Nat → D → Prop) (h0 : I ρ) (hl : ds.length ≤ 1000000) (hs : ∀ i d, ds[i]? = some d → ∀ ρ, I ρ → ∃ x ρ', compT gt ft fe d ρ = .ok (some x, ρ') ∧ I ρ' ∧ P i x) :
    ∃ xs, noEr (compP gt ft fe ds ρ []) = .ok xs ∧ xs.length = ds.length ∧ ∀ i x, xs[i]? = some x → P i x := by
  obtain ⟨xs, g1, g2, g3⟩ := compP_map I P ds 0 ρ [] h0 (by simpa using hl) (by simpa using hs)
  exact ⟨xs, by rw [g1]; rfl, g2, by simpa using g3⟩
/-- lists by what holds of each item -/
theorem list_of {α : Type} {f : α → D} {Q : Nat → α → Prop} : ∀ (xs : List D) (k : Nat), (∀ i x, xs[i]? = some x → ∃ a, x = f a ∧ Q (k + i) a) → ∃ as : List α, xs = as.map f ∧ ∀ i a, as[i]? = some a → Q (k + i) a
  | [], _, _ => ⟨[], rfl, fun i a h => by simp at h⟩
  | x :: r, k, h => by
    obtain ⟨a, e, q⟩ := h 0 x rfl
    obtain ⟨as, e2, q2⟩ := list_of (f := f) (Q := Q) r (k + 1) fun i y hy => by
      have e : k + 1 + i = k + (i + 1) := by omega
      rw [e]
      exact h (i + 1) y (by simpa using hy)
    refine ⟨a :: as, by rw [e, e2]; rfl, fun i b hb => ?_⟩
    cases i with
    | zero => cases (show some a = some b from hb); exact q
    | succ i =>
      have e : k + (i + 1) = k + 1 + i := by omega
      rw [e]
      exact q2 i b (by simpa using hb)
/-! texts -/
theorem eqS {a b : Str} (ha : PyData.strOk a = true) (hb : PyData.strOk b = true) : eqD (.str a) (.str b) = some (.fz (.bool (a == b))) := by
  unfold eqD
  rw [show okD (.str a) = true by unfold okD; rw [show PyData.canLay0 (.str a) = true from ha]; rfl, show PyData.canLay0 (.str b) = true from hb, Bool.and_self, if_pos rfl]
  rfl
theorem eqS_t {a : Str} (ha : PyData.strOk a = true) : eqD (.str a) (.str a) = some (.fz (.bool true)) := by rw [eqS ha ha, beq_self_eq_true]
theorem eqS_f {a b : Str} (ha : PyData.strOk a = true) (hb : PyData.strOk b = true) (h : (a == b) = false) : eqD (.str a) (.str b) = some (.fz (.bool false)) := by rw [eqS ha hb, h]
theorem inS2 {a b c : Str} (ha : PyData.strOk a = true) (hb : PyData.strOk b = true) (hc : PyData.strOk c = true) : inD (.str a) (.tuple [.str b, .str c]) = some (.fz (.bool (b == a || c == a))) := by
  show (if (okD (.str a) && (PyData.strOk b && (PyData.strOk c && true))) = true then some (RV.fz (.bool (PyData.eqv (.str b) (.str a) || (PyData.eqv (.str c) (.str a) || false)))) else none) = _
  rw [show okD (.str a) = true by unfold okD; rw [show PyData.canLay0 (.str a) = true from ha]; rfl, hb, hc, Bool.or_false]
  rfl
theorem inS3 {a b c e : Str} (ha : PyData.strOk a = true) (hb : PyData.strOk b = true) (hc : PyData.strOk c = true) (he : PyData.strOk e = true) : inD (.str a) (.tuple [.str b, .str c, .str e]) = some (.fz (.bool (b == a || (c == a || e == a)))) := by
  show (if (okD (.str a) && (PyData.strOk b && (PyData.strOk c && (PyData.strOk e && true)))) = true then some (RV.fz (.bool (PyData.eqv (.str b) (.str a) || (PyData.eqv (.str c) (.str a) || (PyData.eqv (.str e) (.str a) || false))))) else none) = _
  rw [show okD (.str a) = true by unfold okD; rw [show PyData.canLay0 (.str a) = true from ha]; rfl, hb, hc, he, Bool.or_false]
  rfl
/-! places by ints -/
theorem atI_int {α : Type} {xs : List α} {i : Int} {v : α} (h0 : 0 ≤ i) (h : xs[i.toNat]? = some v) : atI xs i = some v := atI_nn h0 h
theorem ixTi {i : Int} (h0 : 0 ≤ i) (h : ds[i.toNat]? = some d) : ixD (.tuple ds) (.int i) = some (.fz d) := by
  show (atI ds i).map RV.fz = _
  rw [atI_int h0 h]; rfl
theorem ixLi {i : Int} (h0 : 0 ≤ i) (h : ds[i.toNat]? = some d) : ixD (.list ds) (.int i) = some (.fz d) := by
  show (atI ds i).map RV.fz = _
  rw [atI_int h0 h]; rfl
theorem rng1_i {n : Int} (h0 : 0 ≤ n) (h : n ≤ 1000000) : rng1 [.int n] = some (nds (List.range n.toNat)) := by
  rw [rng1_ok (by unfold small62; omega), from_nds]
theorem pow8 : powD (.int 10) (.int 8) = some (.fz (.int (10 ^ 8))) := tr_pow (j := 8) ⟨by decide, by decide⟩
theorem pow24 : powD (.int 10) (.int 24) = some (.fz (.int (10 ^ 24))) := tr_pow (j := 24) ⟨by decide, by decide⟩
theorem ev_opb {f : D → D → Option RV} {fa fb : FE} {pa pb : PV} {dx dy : D} {b : Bool} (ha : fa ρ = .ok (pa, ρ1)) (hb : fb ρ1 = .ok (pb, ρ2)) (hx : rdD ρ2 (settle pa) = some dx) (hy : rdD ρ2 pb = some dy) (hf : f dx dy = some (.fz (.bool b))) : pOp f fa fb ρ = .ok (.fz (.bool b), ρ2) := ev_op (rv := .fz (.bool b)) ha hb hx hy hf
theorem ev_cbb {f : List D → Option RV} {fr : FA} {ps : List PV} {b : Bool} (ha : fr ρ = .ok (ps, ρ1)) (hd : rdDs ρ1 ps = some ds) (hf : f ds = some (.fz (.bool b))) : pCB f fr ρ = .ok (.fz (.bool b), ρ1) := ev_cb (rv := .fz (.bool b)) ha hd hf
theorem ev_calb {F : FN} {n : Nat} {fr : FA} {ps : List PV} {b : Bool} (ha : fr ρ = .ok (ps, ρ1)) (hd : toDs ρ1 ps = some (ds, ρ2)) (hn : ds.length = n) (hF : F ds = .ok (.fz (.bool b))) : pCal F n fr ρ = .ok (.fz (.bool b), ρ2) := ev_cal (rv := .fz (.bool b)) ha hd hn hF
theorem inc_len {s : List Nat} {n : Nat} (hp : s.Pairwise (· < ·)) (h : ∀ k ∈ s, k < n) : s.length ≤ n := by
  have : ∀ (s : List Nat) (a : Nat), s.Pairwise (· < ·) → (∀ k ∈ s, a ≤ k ∧ k < n) → s.length ≤ n - a := by
    intro s
    induction s with
    | nil => intro a _ _; exact Nat.zero_le _
    | cons x r ih =>
      intro a hp h
      obtain ⟨h1, h2⟩ := List.pairwise_cons.mp hp
      have hx := h x List.mem_cons_self
      have := ih (x + 1) h2 fun k hk => ⟨h1 k hk, (h k (List.mem_cons_of_mem _ hk)).2⟩
      rw [List.length_cons]
      omega
  exact this s 0 hp fun k hk => ⟨Nat.zero_le _, h k hk⟩
theorem ev_izip {fr : FA} {ps : List PV} {e : D} {es fs : List D} (ha : fr ρ = .ok (ps, ρ1)) (hd : toDs ρ1 ps = some ([d, e], ρ2)) (hs : asSeq d = some es) (ht : asSeq e = some fs) : iZip fr ρ = .ok (zipD es fs, ρ2) := by
  unfold iZip
  rw [ha, Res.bind_ok, hd, ofO_some, Res.bind_ok]
  dsimp only
  rw [hs, ofO_some, Res.bind_ok, ht, ofO_some, Res.bind_ok]
theorem ev_chain {f g : D → D → Option RV} {fa fb fc : FE} {pa pb pc : PV} {dx dy dz : D} {b1 b2 : Bool} (ha : fa ρ = .ok (pa, ρ)) (hb : fb ρ = .ok (pb, ρ)) (hc : fc ρ = .ok (pc, ρ)) (hx : rdD ρ (settle pa) = some dx) (hy : rdD ρ (settle pb) = some dy) (hz : rdD ρ pc = some dz) (hf : f dx dy = some (.fz (.bool b1))) (hg : b1 = true → g dy dz = some (.fz (.bool b2))) : pChain f g fa fb fc ρ = .ok (.fz (.bool (b1 && b2)), ρ) := by
  unfold pChain
  rw [ha, Res.bind_ok, hb, Res.bind_ok]
  dsimp only
  rw [hx, ofO_some, Res.bind_ok, hy, ofO_some, Res.bind_ok, hf, ofO_some, Res.bind_ok]
  cases b1 with
  | false => rfl
  | true =>
    dsimp only
    rw [hc, Res.bind_ok]
    dsimp only
    rw [hy, ofO_some, Res.bind_ok, hz, ofO_some, Res.bind_ok, hg rfl, ofO_some, Res.bind_ok]
    rfl
end
end L3
namespace L3
open PySem PySem.Spec PyProof.Rows L2 PySem.Builtin PySem.Builtin.Str
/-! ## texts: what their methods do, by values -/
section
variable {X : Cx}
theorem val_s {z : Str} {u : Value} (h : RelV (.str z) u) : ∃ t, u = .str z t := h
theorem mt_starts : MtR X "str.startswith" (fun x xs H Q => ∃ a b, x = .str a ∧ xs = [.str b] ∧ Q (.bl (Txt.startswith a b)) H) := by
  rintro pins s σ H x xs v us Q I rx rxs ⟨a, b, rfl, rfl, q⟩
  obtain ⟨t, rfl⟩ := val_s rx
  obtain ⟨u, rfl, ru⟩ := rxs.one
  obtain ⟨t', rfl⟩ := val_s ru
  exact PySem.SC.startswith ⟨.bl _, H, I, rfl, q⟩
theorem vals_strs : ∀ l : List (Str × Tok), Vals ((l.map (·.1)).map V.str) (strValues l)
  | [] => .nil
  | p :: r => .cons ⟨p.2, rfl⟩ (vals_strs r)
theorem vals_back : ∀ {ts : List Str} {its : List Value}, Vals (ts.map V.str) its → ∃ l, its = strValues l ∧ l.map (·.1) = ts
  | [], _, .nil => ⟨[], rfl, rfl⟩
  | z :: r, _, .cons h t => by
    obtain ⟨k, rfl⟩ := val_s h
    obtain ⟨l, rfl, e⟩ := vals_back t
    exact ⟨(z, k) :: l, rfl, by rw [List.map_cons, e]⟩
noncomputable def rSplit : V → List V → Hp → VK → Prop := fun x xs H Q => ∃ a b, x = .str a ∧ xs = [.str b] ∧ (b.length == 0) = false ∧ a.length ≤ sizeLine ∧ (Txt.split a b).length ≤ sizeLine ∧ ∀ p, H p = none → Q (.ref p) (upd H p (.lst ((Txt.split a b).map V.str)))
theorem mt_split : MtR X "str.split" rSplit := by
  rintro pins s σ H x xs v us Q I rx rxs ⟨a, b, rfl, rfl, hy, hx, hn, q⟩
  obtain ⟨t, rfl⟩ := val_s rx
  obtain ⟨u, rfl, ru⟩ := rxs.one
  obtain ⟨t', rfl⟩ := val_s ru
  have fin : ∀ (l : List (Str × Tok)) (tk : Nat), l.map (·.1) = Txt.split a b → EP X pins σ Q (.ref s.heap.objs.size) { s with heap := s.heap.push { cls := .type "list", data := .seq (strValues l).toArray }, toks := tk } := fun l tk e => by
    have hv := vals_strs l
    rw [e] at hv
    exact ⟨.ref _, _, I.lnew (t' := tk) hv (by rw [List.length_map]; exact hn), rfl, q _ I.fresh⟩
  cases h1 : (decide (a.length < b.length) || decide (strKind a < strKind b)) with
  | true => exact call_meets F.slot_str_split (typeIs_str _ _ _) F.entry_str_split (F.args_str_split_2 _ _) (meets_str_split_cannot_occur a b t t' h1) (fin [(a, t)] s.toks (if_pos h1).symm)
  | false =>
    cases hf : (occurrences a b 0 a.length (a.length + 1)).isEmpty with
    | true => exact call_meets F.slot_str_split (typeIs_str _ _ _) F.entry_str_split (F.args_str_split_2 _ _) (meets_str_split_not_found a b t t' h1 hy hf) (fin [(a, t)] s.toks ((if_neg (ne_true_of_eq_false h1)).trans (if_pos hf)).symm)
    | false =>
      have e : Txt.split a b = partsBetween a (occurrences a b 0 a.length (a.length + 1)) b.length := (if_neg (ne_true_of_eq_false h1)).trans (if_neg (ne_true_of_eq_false hf))
      refine call_meets F.slot_str_split (typeIs_str _ _ _) F.entry_str_split (F.args_str_split_2 _ _) (meets_str_split_sep a b t t' h1 hy hf hx (by rw [← e]; exact hn)) ?_
      rw [strsFrom_eq]
      exact fin (numbered s.toks _) _ ((numbered_texts _ _).trans e.symm)
noncomputable def rJoin (K : PySem.W.Frag) : V → List V → Hp → VK → Prop := fun x xs H Q => ∃ a l ts, x = .str a ∧ xs = [.ref l] ∧ SqL K H l (ts.map V.str) ∧ JoinOk a ts = true ∧ Q (.str (Txt.join a ts)) H
theorem mt_join : MtR X "str.join" (rJoin X.K) := by
  rintro pins s σ H x xs v us Q I rx rxs ⟨a, l, ts, rfl, rfl, hq, hok, q⟩
  obtain ⟨t, rfl⟩ := val_s rx
  obtain ⟨u, rfl, ru⟩ := rxs.one
  cases ru
  obtain ⟨its, rv, pl, hz⟩ := I.list hq
  obtain ⟨ls, rfl, rfl⟩ := vals_back rv
  have hj : tooLong ((ls.map (·.1)).toArray.foldl (· + ·.length + a.length) 0) = false := by
    unfold JoinOk at hok
    rwa [Bool.not_eq_true'] at hok
  exact call_meets F.slot_str_join (typeIs_str _ _ _) F.entry_str_join (F.args_str_join_2 _ _) (meets_str_join_list a t l ls hj) ⟨pl.isList, post_join ls ⟨joinFit_length hj, fun t' k => ⟨.str _, H, I.tok k, ⟨_, rfl⟩, q⟩⟩⟩
noncomputable def rSlS : V → Option Int → Option Int → Hp → VK → Prop := fun x lo hi H Q => ∃ z, x = .str z ∧ z.length ≤ sizeLine ∧ Q (.str (Txt.slice z lo hi)) H
theorem sl_str : SlR X rSlS := by
  rintro pins s σ H x v vl vu lo hi sl Q I rx hs pl pu ⟨z, rfl, hz, q⟩
  obtain ⟨t, rfl⟩ := val_s rx
  refine ⟨"str", _, F.slot_str_getitem.lookup, typeIs_str _ _ _, ?_⟩
  have fin : (Txt.slice z lo hi).length ≤ sizeLine ∧ ∀ t' k, EP X pins σ Q (.str (Txt.slice z lo hi) t') { s with toks := k } := ⟨Nat.le_trans (Txt.slice_le z _ _) hz, fun t' k => ⟨.str _, H, I.tok k, ⟨_, rfl⟩, q⟩⟩
  cases pl with
  | none => cases pu with
    | none => exact wpAny_getItem_str_slice (l := none) (u := none) (st := none) hs rfl (post_val_or_str fin)
    | int j u => exact wpAny_getItem_str_slice (l := none) (u := some (j, u)) (st := none) hs rfl (post_val_or_str fin)
  | int i u => cases pu with
    | none => exact wpAny_getItem_str_slice (l := some (i, u)) (u := none) (st := none) hs rfl (post_val_or_str fin)
    | int j u' => exact wpAny_getItem_str_slice (l := some (i, u)) (u := some (j, u')) (st := none) hs rfl (post_val_or_str fin)
theorem call_intS : CallR X (.type "int") (fun xs H Q => ∃ z n, xs = [.str z] ∧ PySem.intText? z = some n ∧ z.length ≤ 640 ∧ Q (.int n) H) := by
  rintro pins s σ H xs us Q I r ⟨z, n, rfl, hn, hl, q⟩
  obtain ⟨u, rfl, ru⟩ := vals1 r
  obtain ⟨t, rfl⟩ := val_s ru
  exact PySem.W.KIN.call_text hn hl ⟨.int n, H, I.tok _, ⟨_, rfl⟩, q⟩
/-! a written text with two numbers in it -/
end
end L3
namespace L3
open PySem PySem.Spec PyProof.Rows L2 PySem.Builtin PySem.Builtin.Str
section
variable {X : Cx}
/-! ### a written text with two numbers in it -/
noncomputable def f2 (a b : Str) (i j : Int) : Str := PySem.Str.empty ++ a ++ PySem.Str.ofString (toString i) ++ b ++ PySem.Str.ofString (toString j)
noncomputable def tF2' (a b : Str) (t u : TE) : TE := fun σ H Q => t σ H fun x H1 => ∃ i, x = .int i ∧ i.natAbs.log2 < 1920 ∧ (PySem.Str.empty ++ a ++ PySem.Str.ofString (toString i) ++ b).length ≤ sizeLine ∧ u σ H1 fun y H2 => ∃ j, y = .int j ∧ j.natAbs.log2 < 1920 ∧ (f2 a b i j).length ≤ sizeLine ∧ Q (.str (f2 a b i j)) H2
theorem len_pre (a b : Str) : a.length ≤ (a ++ b).length := by rw [PySem.Str.length_append]; omega
theorem pe_f2 {a b : Str} {e f : Expr} {t u : TE} {j0 j2 : Nat} {p0 p1 p2 p3 pos : Pos} (he : PE X e t) (hf : PE X f u) (ha : (PySem.Str.empty ++ a).length ≤ sizeLine) :
    PE X (.JoinedStr [.Constant (.str a) j0 p0, .FormattedValue e (-1) none p1, .Constant (.str b) j2 p2, .FormattedValue f (-1) none p3] pos) (tF2' a b t u) := by
  intro pins s σ H Q I h
  refine wpAny_JoinedStr (Calls.Constant_str ⟨a, _, rfl, ha, ?_⟩)
  have I0 := I.tok (s.toks + 1)
  refine FormattedValue_plain (thn (he pins { s with toks := s.toks + 1 } σ H _ I0 h) fun v s1 ⟨x, H1, I1, r1, i, e1, hi, hl, q1⟩ => ?_)
  subst e1
  obtain ⟨t1, rfl⟩ := (show ∃ t, v = .int i t from r1)
  have l1 : (PySem.Str.empty ++ a ++ PySem.Str.ofString (toString i)).length ≤ sizeLine := Nat.le_trans (len_pre _ b) hl
  refine formatField_int_small hi ⟨PySem.Str.ofString (toString i), _, rfl, l1, ?_⟩
  refine Calls.Constant_str ⟨b, _, rfl, hl, ?_⟩
  refine FormattedValue_plain ?_
  refine thn (hf pins _ σ H1 _ (I1.tok _) q1) fun v s2 ⟨y, H2, I2, r2, j, e2, hj, hl2, q2⟩ => ?_
  subst e2
  obtain ⟨t2, rfl⟩ := (show ∃ t, v = .int j t from r2)
  exact formatField_int_small hj ⟨PySem.Str.ofString (toString j), _, rfl, hl2, hl2, ⟨.str _, H2, I2.tok _, ⟨_, rfl⟩, q2⟩⟩
/-! ### the signs of a text, one by one -/
noncomputable def Its (x : Str) : It := ⟨fun i _ => i < x.cps.size, fun i H v H' => ∃ c, x.cps[i]? = some c ∧ v = .str ⟨#[c]⟩ ∧ H' = H, fun i _ => i = x.cps.size⟩
theorem turn_sign {P : Program} {w : World} {K : PySem.W.Frag} {tg : Expr} (x : Str) (t : Tok) (it : Addr) (ty : String)
    (hn : ["enumerate", "zip", "dict_itemiterator", "dict_reverseitemiterator", "odict_iterator", "itertools.zip_longest", "itertools.pairwise"].contains ty = false)
    (W : ∀ A : Around, A.handled = none → Walks P w A it [it] [it] x.cps.size (SignAt x) (fun i h => h.IsStrIter it ty x t i)) (self : ∀ (A : Around) (i : Nat) (s : Shared) (Q : Value → Shared → Prop) (E : Value → Shared → Prop), s.heap.IsStrIter it ty x t i → Q (.ref it) s → wpAny (model P w) A (pyIter (.ref it)) Q E s) :
    Turn P w K tg (Its x) [it] it (fun i h => h.IsStrIter it ty x t i) where
  mem := by simp
  obj := fun i h st b hb => by
    have e : b = it := by simpa using hb
    subst e
    obtain ⟨o, e, c, d⟩ := st
    exact ⟨o, e, fun v z => by rw [d] at z; cases z⟩
  keep := fun i h h' st k => by
    obtain ⟨o, e, r⟩ := st
    exact ⟨o, k it (by simp) o e, r⟩
  item := by
    intro X hP hw hK hc i pins s σ H E I hf st hg
    subst hP hw hK
    obtain ⟨f0, f1, f2, f3, f4, f5⟩ := hf it (by simp)
    refine (W X.A (I.ok.hd hc)).item i s _ _ hg st fun v h' tk hv st' kp => ?_
    obtain ⟨c, u, hcc, rfl⟩ := hv
    have I1 : L2.Inv X pins σ H { s with heap := h', toks := tk } := I.turned (t' := tk) (fun b o hb e => kp b o (by simpa using hb) e) f0 f1 f3 f4 f5
    obtain ⟨o, e, cl, d⟩ := id st'
    exact ⟨_, rfl, go_of (s := { s with heap := h', toks := tk }) e cl d hn ⟨.str ⟨#[c]⟩, H, I1, ⟨u, rfl⟩, ⟨c, hcc, rfl, rfl⟩, st', fun b hb => (hf b hb).1⟩⟩
  done := by
    intro X hP hw hK hc i pins s σ H E I hf st hg
    subst hP hw hK
    have hg : i = x.cps.size := hg
    subst hg
    obtain ⟨f0, f1, f2, f3, f4, f5⟩ := hf it (by simp)
    exact (W X.A (I.ok.hd hc)).done s _ _ st fun h' tk kp => ⟨rfl, I.turned (t' := tk) (fun b o hb e => kp b o (by simpa using hb) e) f0 f1 f3 f4 f5⟩
  self := fun A i s Q E st h => self A i s Q E st h
noncomputable def iStrT (te : TE) : TI := fun σ H R => te σ H fun x H1 => ∃ z, x = .str z ∧ R (Its z) H1
theorem pi_str {tg l : Expr} {tl : TE} (hl : PE X l tl) : PI X tg l (iStrT tl) := by
  intro pins s σ H R I h
  refine thn (hl pins s σ H _ I h) fun v s1 ⟨y, H1, I1, r1, z, e, q⟩ => ?_
  subst e
  obtain ⟨t, rfl⟩ := val_s r1
  have fp : ∀ b ∈ [s1.heap.objs.size], FpOk X pins H1 b := fun b hb => by
    have e : b = s1.heap.objs.size := by simpa using hb
    subst e
    exact I1.fpOk (Nat.le_refl _) (I1.hok.fresh (Nat.le_refl _))
  cases ha : z.cps.all (· < 128) with
  | false =>
    refine wpAny_pyIter_wide ha ?_
    exact ⟨s1.heap.objs.size, [s1.heap.objs.size], _, _, H1, rfl, I1.kept (t' := s1.toks) fun b o e => Heap.get?_push_of_some _ e, turn_sign z t _ "str_iterator" (by decide) (fun A hA => Walks.strWide hA _ z t) (fun _ _ _ _ _ st h => wpAny_pyIter_striter_wide st h), ⟨_, Heap.get?_push_size _ rfl, rfl, rfl⟩, fp, q⟩
  | true =>
    refine wpAny_pyIter_ascii ha ?_
    exact ⟨s1.heap.objs.size, [s1.heap.objs.size], _, _, H1, rfl, I1.kept (t' := s1.toks) fun b o e => Heap.get?_push_of_some _ e, turn_sign z t _ "str_ascii_iterator" (by decide) (fun A hA => Walks.strAscii hA _ z t) (fun _ _ _ _ _ st h => wpAny_pyIter_striter_ascii st h), ⟨_, Heap.get?_push_size _ rfl, rfl, rfl⟩, fp, q⟩
end
end L3
namespace L3
open PySem PySem.Spec PyProof.Rows L2 PySem.Builtin PySem.Builtin.Str
section
variable {X : Cx}
/-! ### {..}[k] of written texts -/
noncomputable def tDl (D : List (PyData × PyData)) (tb : TE) : TE := fun σ H Q => tb σ H fun y H1 => ∃ k z, y = .str k ∧ lookup (PyData.str k) D = some (.str z) ∧ Q (.str z) H1
theorem pe_dlit {keys : List (Option Expr)} {values : List Expr} {dpos pos : Pos} {b : Expr} {tb : TE} {D : List (PyData × PyData)} (hb : PE X b tb) (hD : litPairs keys values = some D) (hs : strKeyed D = true) (hn : (strKeysOf D).Nodup)
    (hall : keys.all (·.isSome) = true) (hl : keys.length = values.length) (h0 : keys ≠ []) (hlen : keys.length ≤ 15) (hp : PlainIx b) : PE X (.Subscript (.Dict keys values dpos) b pos) (tDl D tb) := by
  intro pins s σ H Q I h
  refine Subscript_ (Dict_lits_str hD hs hn hall hl h0 hlen fun a o h1 tk ha ho T kp => ?_)
  have I1 := I.kept (t' := tk) kp
  obtain ⟨kvs, hdo, hfp⟩ := T
  have I2 : L2.Inv X (pins ++ [(a, o)]) σ H { s with heap := h1, toks := tk } := I1.pins_of fun p hp => by
    rcases List.mem_append.mp hp with z | z
    · exact I1.pin p (List.mem_append_right _ z)
    · rw [List.mem_singleton.mp z]
      exact ⟨ho, I.hok.fresh ha, Nat.ne_of_gt (Nat.lt_of_lt_of_le I.lt ha), I.nofs ha, fun v q => by obtain ⟨_, _, _, d, _⟩ := hdo; rw [d] at q; cases q⟩
  refine thn (hb (pins ++ [(a, o)]) _ σ H _ I2 h) fun u s2 ⟨y, H2, I3, r3, k, z, e, lk, q⟩ => ?_
  subst e
  obtain ⟨t, rfl⟩ := val_s r3
  have ho2 := (I3.pin (a, o) (List.mem_append_right _ (List.mem_append_right _ (List.mem_singleton.mpr rfl)))).1
  obtain ⟨v, hv, fl⟩ := hfp.of_lookup PyProof.V.same_str lk
  have hd2 : s2.heap.DictOf (PySem.strKind X.prog X.w) a kvs := Heap.dictOf_iff.mpr ⟨o, ho2, hdo⟩
  have fin : ∀ tk, EP X pins σ Q v { s2 with toks := tk } := fun tk => ⟨.str z, H2, (I3.pins_of fun p hp => I3.pin p (List.mem_append_right _ (List.mem_append_left _ hp))).tok tk, (by cases fl s2.heap; exact ⟨_, rfl⟩), q⟩
  exact subscriptTail_builtinR (x := v) (T := "dict") hd2.typeIs PySem.slot_dict_getitem.lookup (wpAny_getItem_of (PySem.strKind_is _ _ k t) hd2.mapOf hv ⟨rfl, fin _⟩) (hp _ _)
end
end L3
namespace L3
open PySem PySem.Spec PyProof.Rows L2 PySem.Builtin PySem.Builtin.Str
/-! ### the functions of data -/
section
variable {K : PySem.W.Frag} {E : XK} {B O O' : Own} {H0 H H' : Hp} {σ : L2.St} {ρ ρ' : PEnv} {v : V}
noncomputable def asStr : PV → Option Str
  | .fz (.str z) => some z
  | _ => none
theorem asStr_ok {pv : PV} {z : Str} (p : PvOk K H0 O σ H ρ v pv) (e : asStr pv = some z) : v = .str z := by
  unfold asStr at e
  split at e
  · cases e
    cases (show DV O K H v (.str z) from p)
    rfl
  · cases e
/-- a method of a text -/
noncomputable def MsP (K : PySem.W.Frag) (r : V → List V → Hp → VK → Prop) (f : Str → List D → Option RV) : Prop := ∀ (O : Own) (H : Hp) (z : Str) (xs : List V) (ds : List D) (rv : RV) (Q : VK), NoneO O H → Paired (DX O K H) xs ds → f z ds = some rv → Fin O K H Q rv → r (.str z) xs H Q
noncomputable def pMs (f : Str → List D → Option RV) (fo : FE) (fa : FA) : FE := fun ρ => (fo ρ).bind fun a => (Res.ofO (asStr a.1)).bind fun z => (fa a.2).bind fun b => (Res.ofO (rdDs b.2 b.1)).bind fun ds => (Res.ofO (f z ds)).bind fun rv => .ok (rv.pv, b.2)
theorem eo_ms {r : V → List V → Hp → VK → Prop} {f : Str → List D → Option RV} {to : TE} {ta : TA} {fo : FE} {fa : FA} (hr : MsP K r f) (ho : EO K E to fo) (ha : AO K E ta fa) : EO K E (tBM K "str" r to ta) (pMs f fo fa) := by
  intro B H0 O σ H ρ Q R w
  refine ho B H0 O σ H ρ _ R (w.bind.imp fun a w1 O1 x H1 e1 R1 p1 => ?_)
  obtain ⟨z, qz, w1⟩ := w1.ofO
  obtain rfl := asStr_ok p1 qz
  refine ⟨rfl, ?_⟩
  refine ha B H0 O1 σ H1 a.2 _ R1 (w1.bind.imp fun b w2 O2 xs H2 e2 R2 p2 => ?_)
  obtain ⟨ds, qd, w2⟩ := w2.ofO
  obtain ⟨rv, qf, w2⟩ := w2.ofO
  exact hr O2 H2 z xs ds rv Q R2.od (rds_ok R2 p2 qd) qf (fin_of R2 fun O3 v H3 e3 R3 p3 => w2 O3 v H3 (e1.trans (e2.trans e3)) R3 p3)
noncomputable def startsS (z : Str) : List D → Option RV
  | [.str b] => some (.fz (.bool (Txt.startswith z b)))
  | _ => none
theorem ms_starts : MsP K (fun x xs H Q => ∃ a b, x = .str a ∧ xs = [.str b] ∧ Q (.bl (Txt.startswith a b)) H) startsS := by
  intro O H z xs ds rv Q n hp e q
  unfold startsS at e
  split at e
  · cases e
    cases hp with
    | cons h1 h2 => cases h2; cases h1; exact ⟨_, _, rfl, rfl, q.at (.bl _)⟩
  · cases e
theorem dvs_strs {O : Own} {H : Hp} : ∀ ts : List Str, DVs O K H (ts.map V.str) (ts.map .str)
  | [] => .nil
  | z :: r => .cons (.str z) (dvs_strs r)
noncomputable def splitS (z : Str) : List D → Option RV
  | [.str b] => if (b.length == 0) = false ∧ z.length ≤ 1000000 ∧ (Txt.split z b).length ≤ 1000000 then some (.ow ((Txt.split z b).map .str)) else none
  | _ => none
theorem ms_split : MsP K rSplit splitS := by
  intro O H z xs ds rv Q n hp e q
  unfold splitS at e
  split at e
  · split at e
    · rename_i hc
      cases e
      cases hp with
      | cons h1 h2 => cases h2; cases h1; exact ⟨_, _, rfl, rfl, hc.1, le1e6 hc.2.1, le1e6 hc.2.2, Fin.new (dvs_strs _) q⟩
    · cases e
  · cases e
noncomputable def asSs : List D → Option (List Str)
  | [] => some []
  | .str b :: r => (asSs r).map (b :: ·)
  | _ => none
theorem asSs_ok {O : Own} {H : Hp} : ∀ {xs : List V} {ds : List D} {bs : List Str}, DVs O K H xs ds → asSs ds = some bs → xs = bs.map V.str
  | _, _, _, .nil, e => by cases e; rfl
  | _, _, bs, .cons (vs := vs) (ds := r) h t, e => by
    cases h with
    | str b =>
      have e' : (asSs r).map (b :: ·) = some bs := e
      cases q : asSs r with
      | none => rw [q] at e'; cases e'
      | some bs' =>
        rw [q] at e'
        cases e'
        rw [asSs_ok t q]
        rfl
    | _ => cases e
theorem asSs_map (ts : List Str) : asSs (ts.map .str) = some ts := by
  induction ts with
  | nil => rfl
  | cons n r ih => show (asSs (r.map .str)).map (n :: ·) = _; rw [ih]; rfl
noncomputable def joinS (z : Str) : List D → Option RV
  | [.list ds] => (match asSs ds with
    | some ts => if JoinOk z ts = true then some (.fz (.str (Txt.join z ts))) else none
    | none => none)
  | _ => none
theorem ms_join : MsP K (rJoin K) joinS := by
  intro O H z xs ds rv Q n hp e q
  unfold joinS at e
  split at e
  · rename_i es
    cases qs : asSs es with
    | none => rw [qs] at e; cases e
    | some ts =>
      rw [qs] at e
      dsimp only at e
      split at e
      · rename_i hj
        cases e
        cases hp with
        | cons h1 h2 =>
          cases h2
          obtain ⟨a, ys, rfl, h1, h2⟩ := DXl h1
          have := asSs_ok h2 qs
          subst this
          exact ⟨z, a, ts, rfl, rfl, h1.sq, hj, q.at (.str _)⟩
      · cases e
  · cases e
noncomputable def sliceS : D → Option Int → Option Int → Option RV
  | .str z, lo, hi => if z.length ≤ 1000000 then some (.fz (.str (Txt.slice z lo hi))) else none
  | _, _, _ => none
theorem slp_str : SlP K rSlS sliceS := by
  intro O H x lo hi dx rv Q n hx e q
  unfold sliceS at e
  split at e
  · split at e
    · rename_i hl
      cases e
      cases hx
      exact ⟨_, rfl, le1e6 hl, q.at (.str _)⟩
    · cases e
  · cases e
noncomputable def addS : D → D → Option RV
  | .str i, .str j => if i.length + j.length ≤ 1000000 then some (.fz (.str (i ++ j))) else none
  | _, _ => none
theorem opp_addS : OpP K (fun x y H Q => ∃ i j, x = .str i ∧ y = .str j ∧ i.length + j.length ≤ sizeLine ∧ Q (.str (i ++ j)) H) addS := by
  intro O H x y dx dy rv Q n hx hy e q
  unfold addS at e
  split at e
  · split at e
    · rename_i hl
      cases e
      cases hx; cases hy
      exact ⟨_, _, rfl, rfl, le1e6 hl, q.at (.str _)⟩
    · cases e
  · cases e
noncomputable def inSt (i j : Str) : Bool := !(Builtin.Str.occurrences j i 0 j.length 1).isEmpty
noncomputable def inS := fS inSt
theorem op_inS {X : Cx} : OpR X (compareOp .In) (rStr inSt) := op_in_str
theorem opp_inS : OpP K (rStr inSt) inS := opp_s
noncomputable def strS : List D → Option RV
  | [.int i] => if i.natAbs < 10 ^ 30 then some (.fz (.str (PySem.Str.ofString (toString i)))) else none
  | _ => none
theorem log_small {n : Nat} (h : n < 10 ^ 30) : n.log2 < 1920 := by
  by_cases hz : n = 0
  · subst hz; decide
  · have := (Nat.log2_lt (k := 128) hz).mpr (Nat.lt_of_lt_of_le h (by decide))
    omega
theorem cb_str : CbP K (fun xs H Q => ∃ i, xs = [.int i] ∧ i.natAbs.log2 < 1920 ∧ Q (.str (toString i)) H) strS := by
  intro O H xs ds rv Q n hp e q
  unfold strS at e
  split at e
  · split at e
    · rename_i hl
      cases e
      cases hp with
      | cons h1 h2 => cases h2; cases h1; exact ⟨_, rfl, log_small hl, q.at (.str _)⟩
    · cases e
  · cases e
noncomputable def intS : List D → Option RV
  | [.str z] => (match PySem.intText? z with
    | some n => if z.length ≤ 640 then some (.fz (.int n)) else none
    | none => none)
  | _ => none
theorem cb_intS : CbP K (fun xs H Q => ∃ z n, xs = [.str z] ∧ PySem.intText? z = some n ∧ z.length ≤ 640 ∧ Q (.int n) H) intS := by
  intro O H xs ds rv Q n hp e q
  unfold intS at e
  split at e
  · rename_i z
    cases qz : PySem.intText? z with
    | none => rw [qz] at e; cases e
    | some m =>
      rw [qz] at e
      dsimp only at e
      split at e
      · rename_i hl
        cases e
        cases hp with
        | cons h1 h2 => cases h2; cases h1; exact ⟨_, _, rfl, qz, hl, q.at (.int _)⟩
      · cases e
  · cases e
/-- a written text with two numbers -/
noncomputable def pF2 (a b : Str) (fe ff : FE) : FE := fun ρ => (fe ρ).bind fun x => (Res.ofO (rdD x.2 x.1)).bind fun d => (Res.ofO (asI d)).bind fun i =>
  if i.natAbs < 10 ^ 30 ∧ (PySem.Str.empty ++ a ++ PySem.Str.ofString (toString i) ++ b).length ≤ 1000000 then (ff x.2).bind fun y => (Res.ofO (rdD y.2 y.1)).bind fun e => (Res.ofO (asI e)).bind fun j =>
    if j.natAbs < 10 ^ 30 ∧ (f2 a b i j).length ≤ 1000000 then .ok (.fz (.str (f2 a b i j)), y.2) else .bad
  else .bad
theorem eo_f2 {a b : Str} {te tf : TE} {fe ff : FE} (he : EO K E te fe) (hf : EO K E tf ff) : EO K E (tF2' a b te tf) (pF2 a b fe ff) := by
  intro B H0 O σ H ρ Q R w
  refine he B H0 O σ H ρ _ R (w.bind.imp fun x w1 O1 v1 H1 e1 R1 p1 => ?_)
  obtain ⟨d, qd, w1⟩ := w1.ofO
  obtain ⟨i, qi, w1⟩ := w1.ofO
  obtain rfl := asI_ok (rd_ok R1 p1 qd) qi
  split at w1
  · rename_i hc
    refine ⟨i, rfl, log_small hc.1, le1e6 hc.2, ?_⟩
    refine hf B H0 O1 σ H1 x.2 _ R1 (WR.imp (WR.bind w1) fun y w2 O2 v2 H2 e2 R2 p2 => ?_)
    obtain ⟨e, qe, w2⟩ := w2.ofO
    obtain ⟨j, qj, w2⟩ := w2.ofO
    obtain rfl := asI_ok (rd_ok R2 p2 qe) qj
    split at w2
    · rename_i hd
      exact ⟨j, rfl, log_small hd.1, le1e6 hd.2, w2 O2 _ H2 (e1.trans e2) R2 (.str _)⟩
    · exact w2.elim
  · exact w1.elim
noncomputable def signsD (z : Str) : List D := z.cps.toList.map fun c => .str ⟨#[c]⟩
noncomputable def iSigns (fe : FE) : FI := fun ρ => (fe ρ).bind fun a => (Res.ofO (asStr a.1)).bind fun z => .ok (signsD z, a.2)
theorem it_signs {z : Str} : ItOk K (Its z) O H (signsD z) := by
  intro O' H' e n
  have hl : (signsD z).length = z.cps.size := by unfold signsD; rw [List.length_map, Array.length_toList]
  rw [hl]
  refine ⟨fun i hi => ⟨hi, ?_⟩, rfl⟩
  rintro x H'' ⟨c, hc, rfl, rfl⟩
  refine ⟨Same.refl _, .str ⟨#[c]⟩, ?_, .str _⟩
  unfold signsD
  rw [List.getElem?_map, Array.getElem?_toList, hc]
  rfl
theorem io_signs {tl : TE} {fe : FE} (h : EO K E tl fe) : IO K E (iStrT tl) (iSigns fe) := by
  intro B H0 O σ H ρ R' R w
  refine h B H0 O σ H ρ _ R (w.bind.imp fun a w1 O1 x H1 e1 R1 p1 => ?_)
  obtain ⟨z, qz, w1⟩ := w1.ofO
  obtain rfl := asStr_ok p1 qz
  exact ⟨z, rfl, w1 O1 _ H1 e1 R1 it_signs⟩
/-- {..}[k] -/
noncomputable def dlS (T : List (PyData × PyData)) : D → Option RV
  | .str k => (match lookup (PyData.str k) T with
    | some (.str z) => some (.fz (.str z))
    | _ => none)
  | _ => none
noncomputable def pDl (T : List (PyData × PyData)) (fb : FE) : FE := fun ρ => (fb ρ).bind fun a => (Res.ofO (rdD a.2 a.1)).bind fun d => (Res.ofO (dlS T d)).bind fun rv => .ok (rv.pv, a.2)
theorem eo_dl {T : List (PyData × PyData)} {tb : TE} {fb : FE} (hb : EO K E tb fb) : EO K E (tDl T tb) (pDl T fb) := by
  intro B H0 O σ H ρ Q R w
  refine hb B H0 O σ H ρ _ R (w.bind.imp fun a w1 O1 x H1 e1 R1 p1 => ?_)
  obtain ⟨d, qd, w1⟩ := w1.ofO
  obtain ⟨rv, qf, w1⟩ := w1.ofO
  have dx := rd_ok R1 p1 qd
  unfold dlS at qf
  split at qf
  · rename_i k
    split at qf
    · rename_i z hz
      cases qf
      cases dx
      exact ⟨k, z, rfl, hz, w1 O1 _ H1 e1 R1 (.str _)⟩
    · cases qf
  · cases qf
end
end L3
namespace PySem
open Sem (wp)
open AutoSeq1 (wpAny_loadPart')
open Builtin Builtin.Str
/-! ### enumerate(.., start=1) -/
section
variable {prog : Program} {w : World} {A : Around} {E : Value → Shared → Prop} {s : Shared}
theorem callType_kw {T newId initId : String} {Bn Bi : Builtin} {args : List Value} {kw : List (Str × Value)} {S : Spec} {Q Q₁ : Value → Shared → Prop} (ft : TypeCalled T newId initId)
    (hct : checkTypeCall T ⟨args, kw⟩ = pure ()) (hcn : checkBuiltinCall newId ⟨.type T :: args, kw⟩ = pure ()) (entryN : entryFor table newId = some Bn) (entryI : entryFor table initId = some Bi) (g : Meets (Bn ⟨.type T :: args, kw⟩) S) (h : S A.in1 (wants Q₁ E) s)
    (hnext : ∀ obj s₁, Q₁ obj s₁ → s₁.TypeIs obj T ∧ argsOk initId ⟨obj :: args, kw⟩ ∧ ∃ Si, Meets (Bi ⟨obj :: args, kw⟩) Si ∧ Si A.in1 (wants (fun r s₂ => r = .none ∧ Q obj s₂) E) s₁) : wpAny (model prog w) A (call (.type T) args kw) Q E s := by
  obtain ⟨c, tl, hmro⟩ := ft.mro
  have hmade := ft.made; have hsub := ft.sub
  refine wpAny_call (codeAny_of_tree ?_); show wpAny _ _ (callAny (.type T) _) _ _ _
  refine wpAny_pure ⟨Code.quiet_builtin _ (by decide +kernel), codeAny_builtin F.entry_type_call ?_⟩; rw [Around.under_plain (weight_type_call_type T args kw) (units_type_call_type T args kw)]
  have k1 := ft.notType; have k2 := ft.canCreate
  repeat (any_goals (first | assumption | wp_step))
  refine codeAny_mono (codeAny_call_builtin ft.plain entryN (wpAny_of_eq hcn (g prog w A.in1 _ s h))) fun r s₁ hr => ?_; cases r with
  | error e => exact hr
  | ok fl =>
    cases fl with
    | ret obj =>
      obtain ⟨hT, hok, Si, gi, hsi⟩ := hnext _ _ hr; have hli := ft.init.lookup; have hbi := ft.init.bind obj
      repeat (any_goals (first | assumption | wp_step))
      refine codeAny_mono (codeAny_call_builtin ft.init.plain entryI (ft.init.check _ _ _ _ _ _ _ _ hT hok (gi prog w A.in1 _ s₁ hsi))) fun r₂ s₂ hr₂ => ?_; cases r₂ with
      | error e => exact hr₂
      | ok fl₂ =>
        cases fl₂ with
        | ret r => obtain ⟨rfl, hq⟩ := hr₂; repeat (any_goals (first | assumption | wp_step))
        | _ => exact hr₂.elim
    | _ => exact hr.elim
end
theorem typeCall_enum_kw (a b : Value) : checkTypeCall "enumerate" ⟨[a], [("start", b)]⟩ = pure () := by kernel_rfl
theorem newCall_enum_kw (a b : Value) : checkBuiltinCall "enumerate.__new__" ⟨[.type "enumerate", a], [("start", b)]⟩ = pure () := by kernel_rfl
theorem init_enum_kw (a b c : Value) : argsOk "object.__init__" ⟨[a, b], [("start", c)]⟩ := by
  unfold argsOk; rw [signature?_of (id := "object.__init__") (n := ['_', '_', 't', 'i', 'n', 'i', '_', '_']) (o := ['t', 'c', 'e', 'j', 'b', 'o']) (by kernel_rfl) F.owner_object]; kernel_rfl
theorem object_init_kw {T newId : String} {self a b : Value} (hl : typeLookup (.type T) "__init__" = pure (some (.builtin "object.__init__"))) (hm : Bind.madeBy (.type T) = pure (some newId)) (hne : (some newId != some "object.__new__") = true) :
    Meets (Builtin.«object.__init__» ⟨[self, a], [("start", b)]⟩) (fun _ R s => s.TypeIs self T ∧ R (.ok (.ret .none)) s) := by
  refine Meets.of_wp fun prog w A R s hs => ?_
  obtain ⟨hT, hq⟩ := hs
  repeat (any_goals (first | assumption | wp_step))
  exact ⟨_, rfl, hq⟩
theorem meets_enum_kw (b : Bool) (l : Addr) (items : Array Value) (t : Tok) :
    Meets (Builtin.«enumerate.__new__» ⟨[.type "enumerate", .ref l], [("start", .int 1 t)]⟩) (fun _ R s => sqAt b s.heap l items ∧ R (.ok (.ret (.ref (s.heap.objs.size + 1))))
      { s with heap := (s.heap.push { cls := .type (itCls b), data := .fields #[.ref l, .int 0 0] }).push { cls := .type "enumerate", data := .fields #[.none, .bool false, .ref s.heap.objs.size, rawInt 1, .none, .none] } }) :=
  .of_wp fun prog w A R s h => by
    obtain ⟨hp, g, d, tk, os⟩ := s; obtain ⟨hl, h⟩ := h
    have hsub := sub_enumerate
    have hL : sqAt b (Shared.heap ⟨hp, g, d, tk, os⟩) l items := hl
    have hz : (hp.push { cls := .type (itCls b), data := .fields #[.ref l, .int 0 0] }).objs.size = hp.objs.size + 1 := Heap.size_push ..
    wp_walk using iter_sq hL
    refine wpAny_stack_any fun st => wpAny_pure ?_
    split
    · rename_i c _ _ _ _ _
      cases (c == Value.type "enumerate")
      · wp_walk using iter_sq hL
        rw [hz]
        exact ⟨_, rfl, h⟩
      · wp_walk using iter_sq hL
        rw [hz]
        exact ⟨_, rfl, h⟩
    · wp_walk using iter_sq hL
      rw [hz]
      exact ⟨_, rfl, h⟩
section
variable {prog : Program} {w : World} {A : Around} {E : Value → Shared → Prop} {s : Shared}
theorem call_enum_kw {b : Bool} {l : Addr} {items : Array Value} {t : Tok} {Q : Value → Shared → Prop} (hL : sqAt b s.heap l items)
    (h : ∀ h', IsEnum h' (s.heap.objs.size + 1) s.heap.objs.size 1 .none → itAt b h' s.heap.objs.size l 0 → (∀ c o, s.heap.get? c = some o → h'.get? c = some o) → Q (.ref (s.heap.objs.size + 1)) { s with heap := h' }) :
    wpAny (model prog w) A (call (.type "enumerate") [.ref l] [("start", .int 1 t)]) Q E s := by
  refine callType_kw (Q₁ := fun obj s₁ => s₁.TypeIs obj "enumerate" ∧ Q obj s₁) F.called_enumerate (typeCall_enum_kw _ _) (newCall_enum_kw _ _) F.entry_enumerate_new F.entry_object_init (meets_enum_kw b l items t) ⟨hL, ?_⟩ fun obj _ hq =>
    ⟨hq.1, init_enum_kw _ _ _, _, object_init_kw F.called_enumerate.init.lookup F.called_enumerate.made (by decide), hq.1, rfl, hq.2⟩
  have hz : (s.heap.push { cls := .type (itCls b), data := .fields #[.ref l, .int 0 0] }).objs.size = s.heap.objs.size + 1 := Heap.size_push ..
  have he : IsEnum ((s.heap.push { cls := .type (itCls b), data := .fields #[.ref l, .int 0 0] }).push { cls := .type "enumerate", data := .fields #[.none, .bool false, .ref s.heap.objs.size, rawInt 1, .none, .none] }) (s.heap.objs.size + 1) s.heap.objs.size 1 .none := by
    have := Heap.get?_push_size (s.heap.push { cls := .type (itCls b), data := .fields #[.ref l, .int 0 0] }) (o := { cls := .type "enumerate", data := .fields #[.none, .bool false, .ref s.heap.objs.size, rawInt 1, .none, .none] }) rfl
    rw [hz] at this; exact this
  exact ⟨⟨_, he, rfl⟩, h _ he (it_new (Heap.get?_push_of_some _ (Heap.get?_push_size _ rfl))) fun c o x => Heap.get?_push_of_some _ (Heap.get?_push_of_some _ x)⟩
end
end PySem
namespace PySem
open Sem (wp)
open Builtin Builtin.Str
theorem sqAt.to {b : Bool} {h h' : Heap} {a : Addr} {xs : Array Value} (x : sqAt b h a xs) (e : ∀ o, h.get? a = some o → h'.get? a = some o) : sqAt b h' a xs := by
  cases b with
  | true => obtain ⟨o, h1, h2⟩ := (show h.IsTuple a xs from x); exact ⟨o, e o h1, h2⟩
  | false => obtain ⟨o, h1, h2⟩ := (show h.IsList a xs from x); exact ⟨o, e o h1, h2⟩
/-- drawn from one on -/
theorem draws1 {prog : Program} {w : World} {A : Around} (b : Bool) (hh : A.handled = none) (it l : Addr) (hne : l ≠ it) (items : Array Value) :
    Draws prog w A it [it, l] (items.size + 1) (fun j v => 1 ≤ j ∧ items[j - 1]? = some v) (fun j h => 1 ≤ j ∧ itAt b h it l (j - 1) ∧ sqAt b h l items) where
  live := fun _ _ st => let ⟨o, ho, _⟩ := st.2.1.live; ⟨o, ho⟩
  frame := fun _ _ _ st hk => ⟨st.1, st.2.1.to fun o e => hk it (by simp) o e, st.2.2.to fun o e => hk l (by simp) o e⟩
  item := fun j s Q E hj st hQ => by
    obtain ⟨h1, h2, h3⟩ := st
    have hlt : j - 1 < items.size := by omega
    refine next_it h2 h3 (x := items[j - 1]) (by simp [hlt]) fun h' hit' hs' => ?_
    have e : j - 1 + 1 = j + 1 - 1 := by omega
    rw [e] at hit'
    exact hQ _ h' s.toks ⟨h1, by simp [hlt]⟩ ⟨by omega, hit', h3.ext hs'.extBut hne⟩ hs'
  done := fun s Q E st hE => by
    obtain ⟨h1, h2, h3⟩ := st
    rw [Nat.add_sub_cancel] at h2
    exact next_no hh h2 h3 (by simp) hE
section
variable {M : Model} {A : Around} {E : Value → Shared → Prop} {s : Shared} {env : Env}
theorem callWith_typeK {pos : Pos} {T : String} {e : Expr} {kws : List Keyword} {Q : Value → Shared → Prop}
    (h : wpAny M A (spliced (backTo pos (starEach [e] env))) (fun vs s₁ => wpAny M A (evalAll ((backToKw pos (keywordEach kws env)).map (·.2))) (fun kvs s₂ => wpAny M A (call (.type T) vs (((backToKw pos (keywordEach kws env)).filterMap (·.1)).zip kvs)) Q E s₂) E s₁) E s)
    (he : backTo pos (starEach [e] env) = [(false, eval e env)]) (hall : (backToKw pos (keywordEach kws env)).all (·.1.isSome) = true) (hkw : (backToKw pos (keywordEach kws env)).any (·.1.isNone) = false) :
    wpAny M A (callWith pos (.type T) [] (backTo pos (starEach [e] env)) (backToKw pos (keywordEach kws env))) Q E s := by
  rw [he] at h ⊢
  unfold callWith
  refine wpAny_bind (wpAny_holding (wpAny_mono (PyProof.Rows.evalArgs_kwB (Q := fun a s₁ => wpAny M A (call (.type T) a.pos a.kw) Q E s₁) hall h) (fun a s₁ h₁ => wpAny_bind (wpAny_standAt ?_)) fun _ _ x => x))
  simp only [hkw, List.any_cons, List.any_nil, Bool.or_false]
  refine wpAny_bind (wpAny_pure ?_); exact wpAny_bind (wpAny_mono h₁ (fun r s₂ hr => wpAny_bind (wpAny_holding (wpAny_point (wpAny_pure hr)))) fun _ _ x => x)
end
end PySem
namespace L3
open PySem PySem.Spec PyProof.Rows L2 PySem.Builtin
noncomputable def Ite1 (K : PySem.W.Frag) (b : Bool) (a : Addr) : It :=
  ⟨fun i H => ∃ xs x, SqB b K H a xs ∧ xs[i]? = some x,
   fun i H v H' => ∃ p x, H p = none ∧ v = .ref p ∧ (∀ xs, SqB b K H a xs → xs[i]? = some x) ∧ H' = upd H p (.tup [.int ((i + 1 : Nat) : Int), x]),
   fun i H => ∃ xs, SqB b K H a xs ∧ xs.length = i⟩
theorem turn_enum1 {P : Program} {w : World} {K : PySem.W.Frag} {elts : List Expr} {kk} {tp : Pos} (b : Bool) (a e it : Addr) (hne : e ≠ it) (hai : a ≠ it) (hae : a ≠ e) :
    Turn P w K (.Tuple elts kk tp) (Ite1 K b a) [e, it] e (fun i h => (∃ old, IsEnum h e it ((i + 1 : Nat) : Int) old) ∧ itAt b h it a i) where
  mem := by simp
  obj := fun i h st c hc => by
    obtain ⟨⟨old, he⟩, hi⟩ := st
    rcases List.mem_cons.mp hc with z | hc
    · subst z
      exact ⟨_, he, fun v z => by cases (show Data.fields _ = Data.cell v from z)⟩
    · have z : c = it := by simpa using hc
      subst z
      exact hi.live
  keep := fun i h h' st k => by
    obtain ⟨⟨old, he⟩, hit⟩ := st
    exact ⟨⟨old, k e (by simp) _ he⟩, hit.to fun o q => k it (by simp) o q⟩
  item := by
    intro X hP hw hK hc i pins s σ H E I hf st hg
    subst hP hw hK
    obtain ⟨⟨old, he⟩, hit⟩ := st
    obtain ⟨xs, x, hq, hx⟩ := hg
    obtain ⟨its, rv, p⟩ := sqB_at I hq
    obtain ⟨u, hu, ru⟩ := rv.get hx
    have hlt : i < its.toArray.size := by
      have := (List.getElem?_eq_some_iff.mp hu).1
      simpa using this
    refine wpAny_pyNext_enum_itemD (draws1 (A := X.A.in1) b (I.ok.hd hc) it a hai its.toArray) he ⟨by omega, by rw [Nat.add_sub_cancel]; exact hit, p⟩ (by omega) hne (by simp [hne, hae.symm]) fun y h1 tk hy ho hit1 hT hsz hk => ⟨_, rfl, ?_⟩
    have hyu : y = u := by
      have q : its.toArray[i]? = some u := by simpa using hu
      have hy2 := hy.2
      rw [Nat.add_sub_cancel, q] at hy2
      exact (Option.some.inj hy2).symm
    subst hyu
    refine wpAny_letOwnedTupleGo_enum (s := { s with heap := h1, toks := tk + 1 }) ho fun h2 he2 hs2 => ?_
    have hel : e < s.heap.objs.size := Heap.lt_size he
    have hil : it < s.heap.objs.size := by obtain ⟨_, z, _⟩ := hit.live; exact Heap.lt_size z
    have hn : H s.heap.objs.size = none := I.hok.fresh (Nat.le_refl _)
    have kk : ∀ c o, c ∉ [e, it] → s.heap.get? c = some o → h2.get? c = some o := fun c o hb q => by
      have h3 : c ≠ e := fun z => hb (by simp [z])
      have h4 : c ≠ it := fun z => hb (by simp [z])
      exact (hs2.2 c h3).trans (hk c o h3 h4 q)
    have hT2 : h2.get? s.heap.objs.size = some { cls := .type "tuple", data := .seq #[.int ((i + 1 : Nat) : Int) tk, y] } := (hs2.2 _ (Nat.ne_of_gt hel)).trans hT
    have I2 : L2.Inv X pins σ (upd H s.heap.objs.size (.tup [.int ((i + 1 : Nat) : Int), x])) { s with heap := h2, toks := tk + 1 } :=
      I.turnedLaid (ch := [e, it]) hf kk (Nat.le_refl _) ⟨by show 2 ≤ sizeLine; decide, [.int ((i + 1 : Nat) : Int) tk, y], .cons ⟨_, rfl⟩ (.cons ru .nil), ⟨_, hT2, rfl, _, rfl⟩⟩
    have hit2 := hit1.2.1
    rw [show i + 1 + 1 - 1 = i + 1 by omega] at hit2
    refine ⟨.ref s.heap.objs.size, _, I2, rfl, ⟨_, x, hn, rfl, fun ys hy => by rw [sqB_inj I hy hq]; exact hx, rfl⟩, ⟨⟨y, he2⟩, hit2.to fun o q => (hs2.2 it hne.symm).trans q⟩, fun c hb => ?_⟩
    have hb2 : c ≠ s.heap.objs.size := by
      rcases List.mem_cons.mp hb with z | hb
      · rw [z]; exact Nat.ne_of_lt hel
      · rw [show c = it by simpa using hb]; exact Nat.ne_of_lt hil
    rw [upd_ne hb2]
    exact (hf c hb).1
  done := by
    intro X hP hw hK hc i pins s σ H E I hf st hg
    subst hP hw hK
    obtain ⟨⟨old, he⟩, hit⟩ := st
    obtain ⟨xs, hq, hx⟩ := hg
    obtain ⟨its, rv, p⟩ := sqB_at I hq
    obtain ⟨f0, f1, f2, f3, f4, f5⟩ := hf it (by simp)
    have hl := rv.length
    have ei : i = its.toArray.size := by rw [List.size_toArray]; omega
    subst ei
    exact wpAny_pyNext_enum_endD (draws1 (A := X.A.in1) b (I.ok.hd hc) it a hai its.toArray) he ⟨by omega, by rw [Nat.add_sub_cancel]; exact hit, p⟩ fun h1 eb => ⟨rfl, I.turned (t' := s.toks) (fun c o hb q => eb c o hb q) f0 f1 f3 f4 f5⟩
  self := fun _ _ _ _ _ st h => by
    obtain ⟨⟨old, he⟩, _⟩ := st
    exact wpAny_pyIter_enum he h
noncomputable def iEnum1A (K : PySem.W.Frag) (ta : TA) : TI := fun σ H R => ta σ H fun vs H1 => ∃ a b, vs = [.ref a] ∧ (∃ xs, SqB b K H1 a xs) ∧ R (Ite1 K b a) H1
theorem pi_enum1 {X : Cx} {l : Expr} {ta : TA} {p pos tp p1 p2 : Pos} {elts : List Expr} {kk} {j : Nat} (hg : Gl X "enumerate") (hm : X.mg "enumerate" = none) (ha : PA X [l] ta) (hs : isSt l = false := by rfl) :
    PI X (.Tuple elts kk tp) (.Call (.Name "enumerate" p) [l] [⟨some "start", .Constant (.int 1) j p1, p2⟩] pos) (iEnum1A X.K ta) := by
  intro pins s σ H R I h
  have he : eval (.Call (.Name "enumerate" p) [l] [⟨some "start", .Constant (.int 1) j p1, p2⟩] pos) X.env = (do callWith pos (← eval (.Name "enumerate" p) X.env) [] (backTo pos (starEach [l] X.env)) (backToKw pos (keywordEach [⟨some "start", .Constant (.int 1) j p1, p2⟩] X.env))) := rfl
  rw [he]
  refine wpAny_bind (ld_blt I hg hm boot_enumerate (callWith_typeK (thn (ha pos pins s σ H _ I h) fun us s1 ⟨vs, H1, I1, r1, q1⟩ => ?_) (by rw [star_cons _ _ _ hs]; rfl) rfl rfl))
  obtain ⟨a, b, e, ⟨xs, hq⟩, q⟩ := q1
  subst e
  obtain ⟨u, rfl, ru⟩ := vals1 r1
  cases ru
  obtain ⟨its, rv, px⟩ := sqB_at I1 hq
  refine PyProof.Rows.kws_cons (wpAny_Constant_int (PyProof.Rows.kws_nil ?_))
  have I2 := I1.tok (s1.toks + 1)
  have hal : a < s1.heap.objs.size := px.lt
  have fp : ∀ c ∈ [s1.heap.objs.size + 1, s1.heap.objs.size], FpOk X pins H1 c := fun c hb => by
    have hb2 : s1.heap.objs.size ≤ c := by
      rcases List.mem_cons.mp hb with z | hb
      · rw [z]; exact Nat.le_succ _
      · rw [show c = s1.heap.objs.size by simpa using hb]; exact Nat.le_refl _
    exact I1.fpOk hb2 (I1.hok.fresh hb2)
  refine call_enum_kw (s := { s1 with toks := s1.toks + 1 }) px fun h1 hen hit hk => ?_
  refine wpAny_pyIter_enum (s := { s1 with heap := h1, toks := s1.toks + 1 }) hen ?_
  exact ⟨s1.heap.objs.size + 1, [s1.heap.objs.size + 1, s1.heap.objs.size], _, _, H1, rfl, I1.kept (t' := s1.toks + 1) hk, turn_enum1 b a _ _ (Nat.succ_ne_self _) (Nat.ne_of_lt hal) (Nat.ne_of_lt (Nat.lt_succ_of_lt hal)), ⟨⟨_, hen⟩, hit⟩, fp, q⟩
section
variable {K : PySem.W.Frag} {E : XK} {B O O' : Own} {H0 H H' : Hp} {σ : L2.St} {ρ ρ' : PEnv} {v : V}
theorem it_enum1 {b : Bool} {a : Addr} {xs : List V} {ds : List D} (h : SqBO b O K H a xs) (hd : DVs O K H xs ds) : ItOk K (Ite1 K b a) O H (enumFrom 1 ds) := by
  intro O' H' e n
  have h' := h.ev e
  have hd' := hd.ev e
  rw [enumFrom_len]
  refine ⟨fun i hi => ?_, ⟨xs, h'.at, hd.length⟩⟩
  obtain ⟨x, hx, dx⟩ := hd'.get (List.getElem?_eq_getElem hi)
  refine ⟨⟨xs, x, h'.at, hx⟩, ?_⟩
  rintro y H'' ⟨p, z, hp, rfl, hz, rfl⟩
  have hz' := hz xs h'.at
  rw [hx] at hz'
  cases hz'
  refine ⟨same_upd hp _, .tuple [.int ((i + 1 : Nat) : Int), ds[i]], ?_, .tup ⟨SqT.of upd_same, fun q => absurd q (n p hp)⟩ (.cons (.int _) (.cons (dx.ev (Ev.grow (same_upd hp _))) .nil))⟩
  rw [enumFrom_get, List.getElem?_eq_getElem hi, Nat.add_comm 1 i]
  rfl
noncomputable def iEnum1 (fa : FA) : FI := fun ρ => (fa ρ).bind fun a => (Res.ofO (toDs a.2 a.1)).bind fun b => match b.1 with
  | [d] => (Res.ofO (asSeq d)).bind fun ds => .ok (enumFrom 1 ds, b.2)
  | _ => .bad
theorem io_enum1 {ta : TA} {fa : FA} (h : AO K E ta fa) : IO K E (iEnum1A K ta) (iEnum1 fa) := by
  intro B H0 O σ H ρ R' R w
  refine h B H0 O σ H ρ _ R (w.bind.imp fun a w1 O1 vs H1 e1 R1 p1 => ?_)
  obtain ⟨⟨ds, ρ2⟩, q, w1⟩ := w1.ofO
  obtain ⟨O2, e2, R2, dv⟩ := tos_ok R1 p1 q
  dsimp only at w1
  cases dv with
  | nil => exact w1.elim
  | cons h1 h2 =>
    cases h2 with
    | cons _ _ => exact w1.elim
    | nil =>
      obtain ⟨es, qs, w1⟩ := WR.ofO w1
      obtain ⟨b, a1, xs, rfl, s1, d1⟩ := seqBO h1 qs
      exact ⟨a1, b, rfl, ⟨_, s1.at⟩, w1 O2 _ H1 (e1.trans e2) R2 (it_enum1 s1 d1)⟩
end
end L3
namespace L3
open PySem L2
/-! ## texts laid together and cut again -/
noncomputable def jn (c : Nat) : List (List Nat) → List Nat
  | [] => []
  | [x] => x
  | x :: y :: r => x ++ c :: jn c (y :: r)
theorem join_list (c : Nat) : ∀ ps : List Str, (PySem.Str.join ⟨#[c]⟩ ps).cps.toList = jn c (ps.map fun p => p.cps.toList)
  | [] => rfl
  | [x] => rfl
  | x :: y :: r => by
    show (x ++ ⟨#[c]⟩ ++ PySem.Str.join ⟨#[c]⟩ (y :: r)).cps.toList = x.cps.toList ++ c :: jn c ((y :: r).map fun p => p.cps.toList)
    rw [PySem.Str.cps_append, PySem.Str.cps_append, Array.toList_append, Array.toList_append, join_list c (y :: r), List.append_assoc]
    rfl
theorem cut_one {c : Nat} : ∀ {p w x y : List Nat}, c ∉ p → c ∉ w → p ++ c :: x = w ++ c :: y → p = w ∧ x = y
  | [], [], _, _, _, _, e => ⟨rfl, (List.cons.inj e).2⟩
  | [], b :: w, _, _, _, h, e => absurd (List.cons.inj e).1 fun z => h (by rw [z]; exact List.mem_cons_self)
  | a :: p, [], _, _, h, _, e => absurd (List.cons.inj e).1 fun z => h (by rw [← z]; exact List.mem_cons_self)
  | a :: p, b :: w, _, _, h, g, e => by
    obtain ⟨e1, e2⟩ := List.cons.inj e
    obtain ⟨r1, r2⟩ := cut_one (fun z => h (List.mem_cons_of_mem _ z)) (fun z => g (List.mem_cons_of_mem _ z)) e2
    exact ⟨by rw [e1, r1], r2⟩
theorem jn_inj {c : Nat} : ∀ {ps ws : List (List Nat)}, ps ≠ [] → ws ≠ [] → (∀ p ∈ ps, c ∉ p) → (∀ w ∈ ws, c ∉ w) → jn c ps = jn c ws → ps = ws
  | [], _, h, _, _, _, _ => absurd rfl h
  | _, [], _, h, _, _, _ => absurd rfl h
  | [p], [w], _, _, _, _, e => by rw [show p = w from e]
  | [p], w :: w2 :: r, _, _, h, _, e => absurd (show p = w ++ c :: jn c (w2 :: r) from e) fun z => h p List.mem_cons_self (by rw [z]; exact List.mem_append_right _ List.mem_cons_self)
  | p :: p2 :: r, [w], _, _, _, h, e => absurd (show p ++ c :: jn c (p2 :: r) = w from e) fun z => h w List.mem_cons_self (by rw [← z]; exact List.mem_append_right _ List.mem_cons_self)
  | p :: p2 :: r, w :: w2 :: t, _, _, h, g, e => by
    obtain ⟨e1, e2⟩ := cut_one (h p List.mem_cons_self) (g w List.mem_cons_self) (show p ++ c :: jn c (p2 :: r) = w ++ c :: jn c (w2 :: t) from e)
    have := jn_inj (ps := p2 :: r) (ws := w2 :: t) (by simp) (by simp) (fun q hq => h q (List.mem_cons_of_mem _ hq)) (fun q hq => g q (List.mem_cons_of_mem _ hq)) e2
    rw [e1, this]
theorem str_ext {a b : Str} (h : a.cps.toList = b.cps.toList) : a = b := PySem.Str.ext' (Array.toList_inj.mp h)
noncomputable def Fr (c : Nat) (s : Str) : Prop := c ∉ s.cps.toList
theorem split_join {c : Nat} {ws : List Str} (h0 : ws ≠ []) (h : ∀ w ∈ ws, Fr c w) : Txt.split (PySem.Str.join ⟨#[c]⟩ ws) ⟨#[c]⟩ = ws := by
  have e := PySem.StrLaws.join_split (PySem.Str.join ⟨#[c]⟩ ws) ⟨#[c]⟩
  have f := PySem.StrLaws.split_free (PySem.Str.join ⟨#[c]⟩ ws) c
  have n : Txt.split (PySem.Str.join ⟨#[c]⟩ ws) ⟨#[c]⟩ ≠ [] := fun z => by
    have := PyProof.Rows.split_pos (PySem.Str.join ⟨#[c]⟩ ws) ⟨#[c]⟩
    rw [z] at this
    cases this
  generalize Txt.split (PySem.Str.join ⟨#[c]⟩ ws) ⟨#[c]⟩ = ps at e f n
  have e2 := congrArg (fun s : Str => s.cps.toList) e
  rw [join_list, join_list] at e2
  have := jn_inj (c := c) (ps := ps.map fun p => p.cps.toList) (ws := ws.map fun p => p.cps.toList) (by simpa using n) (by simpa using h0) (fun p hp => by obtain ⟨q, hq, rfl⟩ := List.mem_map.mp hp; exact f q hq) (fun p hp => by obtain ⟨q, hq, rfl⟩ := List.mem_map.mp hp; exact h q hq) e2
  exact (List.map_inj_right fun a b h => str_ext h).mp this
theorem fr_join {c d : Nat} (hc : c ≠ d) : ∀ {ws : List Str}, (∀ w ∈ ws, Fr c w) → Fr c (PySem.Str.join ⟨#[d]⟩ ws) := by
  intro ws h
  unfold Fr
  rw [join_list]
  have : ∀ l : List (List Nat), (∀ w ∈ l, c ∉ w) → c ∉ jn d l := by
    intro l
    induction l with
    | nil => intro _ z; cases z
    | cons x r ih =>
      intro h
      cases r with
      | nil => exact h x List.mem_cons_self
      | cons y r =>
        show c ∉ x ++ d :: jn d (y :: r)
        intro z
        rcases List.mem_append.mp z with z | z
        · exact h x List.mem_cons_self z
        · rcases List.mem_cons.mp z with z | z
          · exact hc z
          · exact ih (fun w hw => h w (List.mem_cons_of_mem _ hw)) z
  exact this _ fun w hw => by obtain ⟨q, hq, rfl⟩ := List.mem_map.mp hw; exact h q hq
theorem join_len {d : Nat} {B : Nat} : ∀ {ws : List Str}, (∀ w ∈ ws, w.length ≤ B) → (PySem.Str.join ⟨#[d]⟩ ws).length ≤ ws.length * (B + 1)
  | [], _ => Nat.zero_le _
  | [x], h => by
    have := h x List.mem_cons_self
    show x.length ≤ 1 * (B + 1)
    omega
  | x :: y :: r, h => by
    have h1 := h x List.mem_cons_self
    have h2 := join_len (ws := y :: r) (d := d) fun w hw => h w (List.mem_cons_of_mem _ hw)
    show (x ++ ⟨#[d]⟩ ++ PySem.Str.join ⟨#[d]⟩ (y :: r)).length ≤ (r.length + 1 + 1) * (B + 1)
    rw [PySem.Str.length_append, PySem.Str.length_append]
    have h3 : (⟨#[d]⟩ : Str).length = 1 := rfl
    have h4 : (y :: r).length = r.length + 1 := rfl
    rw [h4] at h2
    rw [h3, Nat.succ_mul (r.length + 1)]
    omega
theorem join_okk {d : Nat} {ws : List Str} {B : Nat} (h : ∀ w ∈ ws, w.length ≤ B) (hl : ws.length * B + ws.length ≤ 1000000) : JoinOk ⟨#[d]⟩ ws = true := by
  unfold JoinOk
  have := PySem.StrLaws.joinFits (sep := ⟨#[d]⟩) (texts := ws) (B := B) h (by have : (⟨#[d]⟩ : Str).length = 1 := rfl; rw [this]; omega)
  rw [this]
  rfl
theorem joinS_ok {d : Nat} {ws : List Str} {B : Nat} (h : ∀ w ∈ ws, w.length ≤ B) (hl : ws.length * B + ws.length ≤ 1000000) : joinS ⟨#[d]⟩ [.list (ws.map .str)] = some (.fz (.str (PySem.Str.join ⟨#[d]⟩ ws))) := by
  show (match asSs (ws.map .str) with
    | some ts => if JoinOk ⟨#[d]⟩ ts = true then some (RV.fz (.str (Txt.join ⟨#[d]⟩ ts))) else none
    | none => none) = _
  rw [asSs_map]
  dsimp only
  rw [if_pos (join_okk h hl), show Txt.join ⟨#[d]⟩ ws = PySem.Str.join ⟨#[d]⟩ ws from PySem.StrLaws.glued_eq_join _ _]
theorem splitS_ok {c : Nat} {ws : List Str} (h0 : ws ≠ []) (h : ∀ w ∈ ws, Fr c w) (hl : (PySem.Str.join ⟨#[c]⟩ ws).length ≤ 1000000) (hw : ws.length ≤ 1000000) : splitS (PySem.Str.join ⟨#[c]⟩ ws) [.str ⟨#[c]⟩] = some (.ow (ws.map .str)) := by
  show (if ((⟨#[c]⟩ : Str).length == 0) = false ∧ (PySem.Str.join ⟨#[c]⟩ ws).length ≤ 1000000 ∧ (Txt.split (PySem.Str.join ⟨#[c]⟩ ws) ⟨#[c]⟩).length ≤ 1000000 then _ else _) = _
  rw [split_join h0 h, if_pos ⟨rfl, hl, hw⟩]
end L3
local macro_rules | `(tactic| walk_at "px") => `(tactic| simp only [L3.runF, L3.sSeq, L3.sIf, L3.sAsg, L3.sRet, L3.sRetN, L3.sDrop, L3.sNext, L3.sFor, L3.sBreak, L3.sCont, L3.ret_fz, L3.ret_ow, L3.ret_pl, L3.retS_fz, L3.retS_ow, L3.pOp, L3.pUn, L3.var_eq, L3.var_fz, L3.var_ow, L3.pC, L3.pCB, L3.pCal, L3.pTup, L3.pLst, L3.pBool, L3.pAnd, L3.pOr, L3.pNot, L3.pIf, L3.pSl, L3.oSome, L3.oNone,
  L3.qAnd, L3.qOr, L3.qNot, L3.qTrue, L3.aNil, L3.aCons, L3.iRng, L3.iSeq, L3.iEnum, L3.gN_fz, L3.gN_ow, L3.gN_pl, L3.gT, L3.gsN, L3.gsC, L3.gIx, L3.pApp, L3.pPop, L3.pComp, L3.captL_nil, L3.captL_cons, L3.pIsi, L3.tyOf,
  L3.rdD_fz, L3.rdD_ow, L3.rdD_pl, L3.rdS_fz, L3.rdS_ow, L3.toD_fz, L3.toD_ow, L3.toD_pl, L3.toS_fz, L3.toS_ow, L3.rdDs_nil, L3.rdDs_fz, L3.rdDs_pl, L3.toDs_nil, L3.toDs_fz, L3.toDs_pl, L3.settle_fz, L3.settle_ow, L3.settle_pl, L3.asB_bool, L3.asI_int, L3.asT_tup, L3.asSeq_tup, L3.asSeq_lst, L3.asOw_some, L3.noEr_okk, L3.pv_fz, L3.pv_ow, L3.Res.bind_ok, L3.ofO_some, L3.forget, L3.keepF_fz, L3.keepF_ow, L3.keepF_none, L3.compT, L3.obind_some,
  L3.lenD_tup, L3.lenD_lst, L3.tupD, L3.lstD, L3.negD, L3.tr_ltt, L3.tr_le, L3.tr_gt, L3.tr_ge, L3.tr_add, L3.tr_sub, L3.eqD_int, L3.neD_int, L3.eqD_bool, L3.neD_bool,
  List.map_cons, List.map_nil, List.cons_append, List.nil_append, List.append_nil, List.replicate_succ, List.replicate_zero, List.length_cons, List.length_nil, List.getElem?_cons_zero, List.getElem?_cons_succ, List.set_cons_zero, List.set_cons_succ, Nat.reduceSub, Nat.reduceAdd, Nat.reduceLeDiff, Nat.reduceLT, Nat.zero_add, Nat.sub_self, Nat.zero_le, reduceIte, Option.map_some, Option.map_none, Bool.not_true, Bool.not_false, Bool.false_eq_true, if_true, if_false, ite_true, ite_false])
local macro_rules | `(tactic| walk_at "nm") => `(tactic| first | ((simp only [List.set_cons_zero, List.set_cons_succ]); rfl) | rfl)
local macro_rules | `(tactic| walk_at "evf") => `(tactic| first | with_reducible assumption | with_reducible exact L3.tr_add _ _ | with_reducible exact L3.tr_sub _ _ | with_reducible exact L3.tr_ltt _ _ | with_reducible exact L3.tr_le _ _ | with_reducible exact L3.tr_gt _ _ | with_reducible exact L3.tr_ge _ _ | with_reducible exact L3.eqD_nd _ _ | with_reducible exact L3.neD_nd _ _ | with_reducible exact L3.eqD_int _ _ | with_reducible exact L3.neD_int _ _ | with_reducible exact L3.eqD_bool _ _ | with_reducible exact L3.neD_bool _ _ | with_reducible exact L3.eqD_tup _ _ | with_reducible exact L3.neD_tup _ _ | with_reducible exact L3.eqD_lst _ _ | with_reducible exact L3.neD_lst _ _ | with_reducible exact L3.inD_nds _ _ | with_reducible exact L3.ninD_nds _ _ | with_reducible exact L3.inD_ndt _ _ | with_reducible exact L3.ninD_ndt _ _ | with_reducible exact L3.bandD_nd _ _ | with_reducible exact L3.borD_nd _ _ | with_reducible exact L3.shr_nd _ _ | with_reducible exact L3.ixt0 | with_reducible exact L3.ixt1 | with_reducible exact L3.ixt2 | with_reducible exact L3.ixl0 | with_reducible exact L3.ixl1 | with_reducible exact L3.pow18 | with_reducible exact L3.lenD_tup _ | with_reducible exact L3.lenD_lst _ | (with_reducible rfl))
local macro_rules | `(tactic| walk_at "ev") => `(tactic| first
  | with_reducible exact L3.ev_c
  | ((with_reducible apply L3.ev_var); rfl)
  | ((with_reducible apply L3.ev_own); rfl)
  | with_reducible exact L3.ev_nil
  | with_reducible exact L3.ev_onone
  | ((with_reducible apply L3.ev_op); (· walk_at "ev"); (· walk_at "ev"); (· rfl); (· rfl); (· walk_at "evf"))
  | ((with_reducible apply L3.ev_un); (· walk_at "ev"); (· rfl); (· rfl))
  | ((with_reducible apply L3.ev_cons); (· walk_at "ev"); (· walk_at "ev"))
  | ((with_reducible apply L3.ev_bool); (· walk_at "ev"); (· rfl))
  | ((with_reducible apply L3.ev_cb); (· walk_at "ev"); (· rfl); (· first | walk_at "evf" | rfl))
  | ((with_reducible apply L3.ev_cal); (· walk_at "ev"); (· rfl); (· rfl); (· with_reducible assumption))
  | ((with_reducible apply L3.ev_tup); (· walk_at "ev"); (· rfl); (· exact Nat.le_of_ble_eq_true rfl))
  | ((with_reducible apply L3.ev_lst); (· walk_at "ev"); (· rfl); (· exact Nat.le_of_ble_eq_true rfl))
  | ((with_reducible apply L3.ev_isi); (· walk_at "ev"); (· rfl); (· rfl))
  | ((with_reducible apply L3.ev_osome); (· walk_at "ev"); (· rfl))
  | ((with_reducible apply L3.ev_sl); (· walk_at "ev"); (· walk_at "ev"); (· walk_at "ev"); (· rfl); (· first | with_reducible assumption | rfl))
  | ((with_reducible apply L3.ev_qnot); (· walk_at "ev"))
  | ((with_reducible apply L3.ev_qand); (· walk_at "ev"); (· intro _; walk_at "ev"))
  | ((with_reducible apply L3.ev_qor); (· walk_at "ev"); (· intro _; walk_at "ev"))
  | ((with_reducible apply L3.ev_pnot); (· walk_at "ev"))
  | ((with_reducible apply L3.ev_pand); (· walk_at "ev"); (· intro _; walk_at "ev"))
  | ((with_reducible apply L3.ev_por); (· walk_at "ev"); (· intro _; walk_at "ev"))
  | ((with_reducible apply L3.ev_irng); (· walk_at "ev"); (· rfl); (· first | with_reducible assumption | rfl))
  | ((with_reducible apply L3.ev_iseq); (· walk_at "ev"); (· rfl); (· rfl))
  | ((with_reducible apply L3.ev_ienum); (· walk_at "ev"); (· rfl); (· rfl))
  | ((with_reducible apply L3.ev_app); (· rfl); (· walk_at "ev"); (· rfl); (· rfl); (· first | with_reducible assumption | (simp only [List.length_nil, List.length_cons, L3.nds_len] at *; omega)); (· walk_at "nm"))
  | ((with_reducible apply L3.ev_pop); (· rfl); (· walk_at "ev"); (· rfl); (· rfl); (· with_reducible assumption); (· with_reducible assumption); (· with_reducible assumption); (· walk_at "nm"))
  | ((with_reducible apply L3.st_asg); (· walk_at "ev"); (· rfl); (· walk_at "nm"))
  | ((with_reducible apply L3.st_drop); (· walk_at "ev"))
  | ((with_reducible apply L3.st_ret); (· walk_at "ev"); (· rfl)))
local macro_rules | `(tactic| walk_at "evb") => `(tactic| first
  | ((with_reducible apply L3.ev_opb); (· walk_at "ev"); (· walk_at "ev"); (· rfl); (· rfl); (· walk_at "evf"))
  | ((with_reducible apply L3.ev_calb); (· walk_at "ev"); (· rfl); (· rfl); (· with_reducible assumption))
  | ((with_reducible apply L3.ev_cbb); (· walk_at "ev"); (· rfl); (· first | walk_at "evf" | rfl))
  | walk_at "ev")
local macro_rules | `(tactic| walk_at "ev") => `(tactic| first
  | with_reducible assumption
  | ((with_reducible apply L3.ev_pand); (· walk_at "ev"); (· intro _; walk_at "evb"))
  | ((with_reducible apply L3.ev_por); (· walk_at "ev"); (· intro _; walk_at "evb"))
  | ((with_reducible apply L3.ev_chain); (· walk_at "ev"); (· walk_at "ev"); (· walk_at "ev"); (· rfl); (· rfl); (· rfl); (· walk_at "evf"); (· intro _; walk_at "evf"))
  | ((with_reducible apply L3.ev_izip); (· walk_at "ev"); (· rfl); (· rfl); (· rfl)))
local macro_rules | `(tactic| walk_at "go") => `(tactic| first
  | ((with_reducible apply L3.gs_asg); (· walk_at "ev"); (· rfl); (· walk_at "nm"); try walk_at "go")
  | ((with_reducible apply L3.gs_drop); (· walk_at "ev"); try walk_at "go")
  | ((with_reducible apply L3.gs_seq); try walk_at "go")
  | ((with_reducible apply L3.gs_next); try walk_at "go")
  | ((with_reducible apply L3.gs_ret); (· walk_at "ev"); (· rfl))
  | ((with_reducible apply L3.gs_if); (· walk_at "ev"))
  | ((with_reducible apply L3.gl_asg); (· walk_at "ev"); (· rfl); (· walk_at "nm"))
  | ((with_reducible apply L3.go_drop); (· walk_at "ev"))
  | ((with_reducible apply L3.go_ret); (· walk_at "ev"); (· rfl))
  | ((with_reducible apply L3.go_if); (· walk_at "ev"))
  | (with_reducible apply L3.go_next))
namespace K23
open PySem L2 L3

noncomputable def g__law_cell : FS := (sRet (pOp ixD (pOp addD (pSl slD (pVar 0) (oSome (pVar 1)) (oSome (pOp addD (pVar 1) (pC (.int 1))))) (pLst (aCons (pC (.int 0)) aNil))) (pC (.int 0))))
noncomputable def F__law_cell : FN := runF 2 g__law_cell
noncomputable def g__law_stirred : FS := (sSeq (sAsg (pOp addD (pOp modD (pVar 0) (pC (.int 1000000007))) (pOp mulE (pC (.int 13)) (pVar 1))) (gN 2))
  (sSeq (sAsg (pOp modD (pOp addD (pOp addD (pOp mulE (pVar 2) (pOp addD (pOp addD (pVar 2) (pOp mulE (pVar 1) (pVar 1))) (pC (.int 11)))) (pOp mulE (pC (.int 40487)) (pVar 1))) (pC (.int 7))) (pC (.int 1000000033))) (gN 2))
  (sRet (pOp divD (pOp modD (pOp addD (pOp mulE (pVar 2) (pOp addD (pOp divD (pVar 2) (pC (.int 7))) (pC (.int 31)))) (pC (.int 90001))) (pC (.int 999999937))) (pC (.int 3))))))
noncomputable def F__law_stirred : FN := runF 3 g__law_stirred
noncomputable def g__law_stream : FS := (sSeq (sAsg (pLst aNil) (gN 2))
  (sSeq (sAsg (pCB max2D (aCons (pVar 0) (aCons (pOp subD (pC (.int 0)) (pVar 0)) aNil))) (gN 3))
  (sSeq (sFor (iRng rng1 (aCons (pVar 1) aNil)) (gN 4) (sSeq (sAsg (pC (.int 0)) (gN 5))
  (sSeq (sFor (iRng rng1 (aCons (pC (.int 3)) aNil)) (gN 6) (sAsg (pOp addD (pOp mulE (pVar 5) (pOp powD (pC (.int 10)) (pC (.int 8)))) (pOp modD (pCal F__law_stirred 2 (aCons (pVar 0) (aCons (pOp addD (pOp mulE (pC (.int 3)) (pVar 4)) (pVar 6)) aNil))) (pOp powD (pC (.int 10)) (pC (.int 8))))) (gN 5)))
  (sSeq (sIf (qAnd (pBool (pOp gtD (pVar 3) (pC (.int 0)))) (qOr (pBool (pOp ltD (pVar 0) (pC (.int 0)))) (pBool (pOp geD (pVar 0) (pOp powD (pC (.int 10)) (pC (.int 18))))))) (sSeq (sAsg (pOp modD (pVar 3) (pOp powD (pC (.int 10)) (pC (.int 24)))) (gN 5))
  (sAsg (pOp divD (pVar 3) (pOp powD (pC (.int 10)) (pC (.int 24)))) (gN 3))) sNext)
  (sDrop (pApp 2 (pVar 5)))))))
  (sRet (pVar 2)))))
noncomputable def F__law_stream : FN := runF 7 g__law_stream
noncomputable def g__law_letter : FS := (sRet (pOp ixS (pC (.str "abcdefghijklmnopqrstuvwxyz")) (pOp modD (pVar 0) (pC (.int 26)))))
noncomputable def F__law_letter : FN := runF 1 g__law_letter
noncomputable def g__law_meaning_of : FS := (sSeq (sAsg (pOp modD (pVar 0) (pC (.int 6))) (gN 3))
  (sSeq (sAsg (pCal F__law_letter 1 (aCons (pOp divD (pVar 0) (pC (.int 6))) aNil)) (gN 4))
  (sSeq (sAsg (pOp addD (pC (.int 1)) (pOp modD (pOp divD (pVar 0) (pC (.int 156))) (pCB max2D (aCons (pC (.int 1)) (aCons (pOp subD (pVar 2) (pC (.int 1))) aNil))))) (gN 5))
  (sSeq (sAsg (pTup (aCons (pC (.str "letter")) (aCons (pVar 4) aNil))) (gN 6))
  (sSeq (sIf (qOr (pBool (pOp eqD (pVar 3) (pC (.int 1)))) (qAnd (pBool (pOp eqD (pVar 3) (pC (.int 2)))) (pBool (pOp eqD (pVar 1) (pC (.int 0)))))) (sAsg (pTup (aCons (pC (.str "none")) aNil)) (gN 6)) (sIf (pBool (pOp eqD (pVar 3) (pC (.int 2)))) (sAsg (pTup (aCons (pC (.str "below")) aNil)) (gN 6)) (sIf (qAnd (pBool (pOp gtD (pVar 3) (pC (.int 2)))) (pBool (pOp gtD (pVar 2) (pC (.int 1))))) (sAsg (pOp ixD (pLst (aCons (pTup (aCons (pC (.str "layer")) (aCons (pVar 5) aNil))) (aCons (pTup (aCons (pC (.str "tap")) (aCons (pVar 4) (aCons (pVar 5) aNil)))) (aCons (pTup (aCons (pC (.str "once")) (aCons (pVar 5) aNil))) aNil)))) (pOp subD (pVar 3) (pC (.int 3)))) (gN 6)) sNext)))
  (sRet (pVar 6)))))))
noncomputable def F__law_meaning_of : FN := runF 7 g__law_meaning_of
noncomputable def g__law_read_bed : FS := (sSeq (sAsg (pOp addD (pC (.int 1)) (pOp modD (pOp ixD (pVar 0) (pC (.int 0))) (pC (.int 5)))) (gN 1))
  (sSeq (sAsg (pOp addD (pC (.int 1)) (pOp modD (pOp divD (pOp ixD (pVar 0) (pC (.int 0))) (pC (.int 5))) (pC (.int 3)))) (gN 2))
  (sSeq (sAsg (pLst aNil) (gN 3))
  (sSeq (sFor (iRng rng1 (aCons (pVar 2) aNil)) (gN 4) (sDrop (pApp 3 (pCB tupD (aCons (pComp 1 [0, 4, 2] (iRng rng1 (aCons (pVar 1) aNil)) (gN 0) qTrue (pCal F__law_meaning_of 3 (aCons (pOp ixD (pVar 1) (pOp addD (pOp addD (pC (.int 1)) (pOp mulE (pC (.int 5)) (pVar 2))) (pVar 0))) (aCons (pVar 2) (aCons (pVar 3) aNil))))) aNil)))))
  (sSeq (sAsg (pComp 1 [3] (iRng rng1 (aCons (pVar 1) aNil)) (gN 0) (pBool (pOp eqD (pOp ixD (pOp ixD (pOp ixD (pVar 1) (pC (.int 0))) (pVar 0)) (pC (.int 0))) (pC (.str "letter")))) (pVar 0)) (gN 5))
  (sSeq (sAsg (pLst aNil) (gN 6))
  (sSeq (sFor (iSeq (pSl slD (pVar 0) (oSome (pC (.int 16))) (oSome (pOp addD (pC (.int 16)) (pOp modD (pOp divD (pOp ixD (pVar 0) (pC (.int 0))) (pC (.int 60))) (pC (.int 5))))))) (gN 7) (sSeq (sAsg (pCB tupD (aCons (pComp 1 [7] (iKeep 5) (gN 0) (pBool (pOp eqD (pOp modD (pOp divD (pVar 1) (pOp ixD (pLst (aCons (pC (.int 1)) (aCons (pC (.int 2)) (aCons (pC (.int 4)) (aCons (pC (.int 8)) (aCons (pC (.int 16)) aNil)))))) (pVar 0))) (pC (.int 2))) (pC (.int 1)))) (pVar 0)) aNil)) (gN 8))
  (sIf (qAnd (pBool (pOp gtD (pCB lenD (aCons (pVar 8) aNil)) (pC (.int 1)))) (pBool (pOp ninD (pVar 8) (pComp 1 [] (iKeep 6) (gN 0) qTrue (pOp ixD (pVar 0) (pC (.int 0))))))) (sDrop (pApp 6 (pTup (aCons (pVar 8) (aCons (pCal F__law_letter 1 (aCons (pOp divD (pVar 7) (pC (.int 32))) aNil)) aNil))))) sNext)))
  (sRet (pTup (aCons (pVar 1) (aCons (pCB tupD (aCons (pVar 3) aNil)) (aCons (pCB tupD (aCons (pVar 6) aNil)) (aCons (pOp addD (pC (.int 1)) (pOp modD (pOp divD (pOp ixD (pVar 0) (pC (.int 0))) (pC (.int 15))) (pC (.int 4)))) aNil)))))))))))))
noncomputable def F__law_read_bed : FN := runF 9 g__law_read_bed
noncomputable def g__law_wide : FS := (sSeq (sIf (qOr (pBool (pOp ltD (pVar 0) (pC (.int 0)))) (pBool (pOp geD (pVar 0) (pOp powD (pC (.int 10)) (pC (.int 18)))))) (sRet (pCB max2D (aCons (pVar 0) (aCons (pOp subD (pC (.int 0)) (pVar 0)) aNil)))) sNext)
  (sRet (pCal F__law_stirred 2 (aCons (pCal F__law_stirred 2 (aCons (pVar 0) (aCons (pVar 1) aNil))) (aCons (pC (.int 3)) aNil)))))
noncomputable def F__law_wide : FN := runF 2 g__law_wide
noncomputable def g__law_meaning : FS := (sSeq (sAsg (pOp modD (pVar 0) (pC (.int 8))) (gN 3))
  (sSeq (sAsg (pCal F__law_letter 1 (aCons (pOp divD (pVar 0) (pC (.int 8))) aNil)) (gN 4))
  (sSeq (sIf (qOr (pBool (pOp ltD (pVar 3) (pC (.int 3)))) (qAnd (pBool (pOp eqD (pVar 2) (pC (.int 1)))) (pBool (pOp ltD (pVar 3) (pC (.int 7)))))) (sRet (pTup (aCons (pC (.str "letter")) (aCons (pVar 4) aNil)))) sNext)
  (sSeq (sAsg (pOp addD (pC (.int 1)) (pOp modD (pOp divD (pVar 0) (pC (.int 208))) (pCB max2D (aCons (pC (.int 1)) (aCons (pOp subD (pVar 2) (pC (.int 1))) aNil))))) (gN 5))
  (sSeq (sIf (pBool (pOp eqD (pVar 3) (pC (.int 3)))) (sRet (pTup (aCons (pC (.str "layer")) (aCons (pVar 5) aNil)))) sNext)
  (sSeq (sIf (pBool (pOp eqD (pVar 3) (pC (.int 4)))) (sRet (pTup (aCons (pC (.str "tap")) (aCons (pVar 4) (aCons (pVar 5) aNil))))) sNext)
  (sSeq (sIf (pBool (pOp eqD (pVar 3) (pC (.int 5)))) (sRet (pTup (aCons (pC (.str "once")) (aCons (pVar 5) aNil)))) sNext)
  (sSeq (sIf (qAnd (pBool (pOp eqD (pVar 3) (pC (.int 6)))) (pBool (pOp gtD (pVar 1) (pC (.int 0))))) (sRet (pTup (aCons (pC (.str "below")) aNil))) sNext)
  (sRet (pTup (aCons (pC (.str "none")) aNil)))))))))))
noncomputable def F__law_meaning : FN := runF 6 g__law_meaning
noncomputable def g__law_bed : FS := (sSeq (sAsg (pCal F__law_cell 2 (aCons (pVar 0) (aCons (pVar 1) aNil))) (gN 2))
  (sSeq (sIf (qOr (pBool (pOp ltD (pVar 2) (pC (.int 0)))) (pBool (pOp geD (pVar 2) (pOp powD (pC (.int 10)) (pC (.int 18)))))) (sRet (pCal F__law_read_bed 1 (aCons (pCal F__law_stream 2 (aCons (pVar 2) (aCons (pC (.int 20)) aNil))) aNil))) sNext)
  (sSeq (sAsg (pCal F__law_wide 2 (aCons (pVar 2) (aCons (pVar 1) aNil))) (gN 2))
  (sSeq (sAsg (pOp eqD (pOp modD (pOp divD (pVar 2) (pC (.int 60))) (pC (.int 4))) (pC (.int 1))) (gN 3))
  (sSeq (sAsg (pOp ixD (pLst (aCons (pOp addD (pC (.int 1)) (pOp modD (pVar 2) (pC (.int 5)))) (aCons (pOp addD (pC (.int 3)) (pOp modD (pVar 2) (pC (.int 3)))) aNil))) (pCB intD (aCons (pVar 3) aNil))) (gN 4))
  (sSeq (sAsg (pLst aNil) (gN 5))
  (sSeq (sFor (iRng rng1 (aCons (pOp addD (pC (.int 1)) (pOp modD (pOp divD (pVar 2) (pC (.int 5))) (pC (.int 3)))) aNil)) (gN 6) (sSeq (sAsg (pComp 1 [0, 1, 6] (iRng rng1 (aCons (pVar 4) aNil)) (gN 0) qTrue (pCal F__law_wide 2 (aCons (pCal F__law_cell 2 (aCons (pVar 1) (aCons (pOp addD (pOp addD (pOp addD (pVar 2) (pC (.int 1))) (pOp mulE (pC (.int 5)) (pVar 3))) (pVar 0)) aNil))) (aCons (pOp addD (pOp mulE (pC (.int 5)) (pVar 3)) (pVar 0)) aNil)))) (gN 7))
  (sSeq (sDrop (pApp 5 (pCB tupD (aCons (pComp 1 [6, 2] (iKeep 7) (gN 0) qTrue (pCal F__law_meaning 3 (aCons (pVar 0) (aCons (pVar 1) (aCons (pOp addD (pC (.int 1)) (pOp modD (pOp divD (pVar 2) (pC (.int 5))) (pC (.int 3)))) aNil))))) aNil))))
  (sIf (qAnd (pBool (pVar 3)) (pBool (pOp eqD (pVar 6) (pC (.int 0))))) (sAsg (pLst (aCons (pCB tupD (aCons (pComp 1 [] (iKeep 7) (gN 0) qTrue (pTup (aCons (pC (.str "letter")) (aCons (pCal F__law_letter 1 (aCons (pOp divD (pVar 0) (pC (.int 8))) aNil)) aNil)))) aNil)) aNil)) (gN 5)) sNext))))
  (sSeq (sAsg (pComp 1 [5] (iRng rng1 (aCons (pVar 4) aNil)) (gN 0) (pBool (pOp eqD (pOp ixD (pOp ixD (pOp ixD (pVar 1) (pC (.int 0))) (pVar 0)) (pC (.int 0))) (pC (.str "letter")))) (pVar 0)) (gN 8))
  (sSeq (sAsg (pLst aNil) (gN 9))
  (sSeq (sFor (iRng rng1 (aCons (pOp ixD (pLst (aCons (pOp modD (pCal F__law_wide 2 (aCons (pCal F__law_cell 2 (aCons (pVar 0) (aCons (pOp addD (pVar 1) (pC (.int 16))) aNil))) (aCons (pC (.int 16)) aNil))) (pC (.int 5))) (aCons (pOp addD (pC (.int 1)) (pOp modD (pOp divD (pVar 2) (pC (.int 240))) (pC (.int 4)))) aNil))) (pCB intD (aCons (pVar 3) aNil))) aNil)) (gN 10) (sSeq (sAsg (pCal F__law_wide 2 (aCons (pCal F__law_cell 2 (aCons (pVar 0) (aCons (pOp addD (pOp addD (pVar 1) (pC (.int 17))) (pVar 10)) aNil))) (aCons (pOp addD (pC (.int 17)) (pVar 10)) aNil))) (gN 11))
  (sSeq (sAsg (pCB tupD (aCons (pComp 1 [11] (iKeep 8) (gN 0) (pBool (pOp eqD (pOp modD (pOp divD (pVar 1) (pOp ixD (pLst (aCons (pC (.int 1)) (aCons (pC (.int 2)) (aCons (pC (.int 4)) (aCons (pC (.int 8)) (aCons (pC (.int 16)) aNil)))))) (pVar 0))) (pC (.int 2))) (pC (.int 1)))) (pVar 0)) aNil)) (gN 12))
  (sSeq (sIf (pBool (pVar 3)) (sAsg (pOp ixD (pLst (aCons (pTup (aCons (pC (.int 0)) (aCons (pC (.int 1)) aNil))) (aCons (pTup (aCons (pC (.int 1)) (aCons (pC (.int 2)) aNil))) (aCons (pTup (aCons (pC (.int 0)) (aCons (pC (.int 1)) (aCons (pC (.int 2)) aNil)))) (aCons (pTup (aCons (pC (.int 0)) (aCons (pOp subD (pVar 4) (pC (.int 1))) aNil))) aNil))))) (pOp modD (pOp addD (pVar 10) (pOp divD (pVar 2) (pC (.int 960)))) (pC (.int 4)))) (gN 12)) sNext)
  (sIf (qAnd (pBool (pOp gtD (pCB lenD (aCons (pVar 12) aNil)) (pC (.int 1)))) (pBool (pOp ninD (pVar 12) (pComp 1 [] (iKeep 9) (gN 0) qTrue (pOp ixD (pVar 0) (pC (.int 0))))))) (sDrop (pApp 9 (pTup (aCons (pVar 12) (aCons (pCal F__law_letter 1 (aCons (pOp divD (pVar 11) (pC (.int 32))) aNil)) aNil))))) sNext)))))
  (sRet (pTup (aCons (pVar 4) (aCons (pCB tupD (aCons (pVar 5) aNil)) (aCons (pCB tupD (aCons (pVar 9) aNil)) (aCons (pOp addD (pC (.int 1)) (pOp modD (pOp divD (pVar 2) (pC (.int 15))) (pC (.int 4)))) aNil))))))))))))))))
noncomputable def F__law_bed : FN := runF 13 g__law_bed
noncomputable def g__law_word : FS := (sSeq (sIf (pBool (pOp eqD (pOp ixD (pVar 0) (pC (.int 0))) (pC (.str "letter")))) (sRet (pOp ixD (pVar 0) (pC (.int 1)))) sNext)
  (sSeq (sIf (pBool (pOp eqD (pOp ixD (pVar 0) (pC (.int 0))) (pC (.str "tap")))) (sRet (pOp addS (pOp addS (pOp ixD (pVar 0) (pC (.int 1))) (pC (.str ">"))) (pCB strS (aCons (pOp ixD (pVar 0) (pC (.int 2))) aNil)))) sNext)
  (sRet (pOp addS (pDl [(PyData.str "layer", PyData.str ">"), (PyData.str "once", PyData.str "~"), (PyData.str "none", PyData.str "."), (PyData.str "below", PyData.str "_")] (pOp ixD (pVar 0) (pC (.int 0)))) (pMs joinS (pC (.str "")) (aCons (pComp 1 [] (iSeq (pSl slD (pVar 0) (oSome (pC (.int 1))) oNone)) (gN 0) qTrue (pCB strS (aCons (pVar 0) aNil))) aNil))))))
noncomputable def F__law_word : FN := runF 1 g__law_word
noncomputable def g__law_text : FS := (sSeq (sAsg (pLst (aCons (pOp addS (pOp addS (pOp addS (pC (.str "keys ")) (pCB strS (aCons (pOp ixD (pVar 0) (pC (.int 0))) aNil))) (pC (.str " wait "))) (pCB strS (aCons (pOp ixD (pVar 0) (pC (.int 3))) aNil))) aNil)) (gN 1))
  (sSeq (sFor (iSeq (pOp ixD (pVar 0) (pC (.int 1)))) (gN 2) (sDrop (pApp 1 (pOp addS (pC (.str "layer ")) (pMs joinS (pC (.str " ")) (aCons (pComp 1 [] (iSeq (pVar 2)) (gN 0) qTrue (pCal F__law_word 1 (aCons (pVar 0) aNil))) aNil))))))
  (sSeq (sFor (iSeq (pOp ixD (pVar 0) (pC (.int 2)))) (gT 2 (gsC (gN 3) (gsC (gN 4) gsN))) (sDrop (pApp 1 (pOp addS (pOp addS (pOp addS (pC (.str "chord ")) (pMs joinS (pC (.str "+")) (aCons (pComp 1 [] (iSeq (pVar 3)) (gN 0) qTrue (pCB strS (aCons (pVar 0) aNil))) aNil))) (pC (.str " "))) (pVar 4)))))
  (sRet (pMs joinS (pC (.str "\n")) (aCons (pVar 1) aNil))))))
noncomputable def F__law_text : FN := runF 5 g__law_text
noncomputable def g_shown_meaning : FS := (sSeq (sAsg (pOp ixD (pVar 0) (pC (.int 0))) (gN 1))
  (sSeq (sIf (pBool (pOp eqD (pVar 1) (pC (.str "none")))) (sRet (pC (.str "."))) sNext)
  (sSeq (sIf (pBool (pOp eqD (pVar 1) (pC (.str "below")))) (sRet (pC (.str "_"))) sNext)
  (sSeq (sIf (pBool (pOp eqD (pVar 1) (pC (.str "letter")))) (sRet (pOp ixD (pVar 0) (pC (.int 1)))) sNext)
  (sSeq (sAsg (pCB strS (aCons (pOp ixD (pVar 0) (pUn negD (pC (.int 1)))) aNil)) (gN 2))
  (sSeq (sIf (pBool (pOp eqD (pVar 1) (pC (.str "once")))) (sRet (pOp addS (pC (.str "~")) (pVar 2))) sNext)
  (sSeq (sIf (pBool (pOp eqD (pVar 1) (pC (.str "layer")))) (sRet (pOp addS (pC (.str ">")) (pVar 2))) sNext)
  (sRet (pOp addS (pOp addS (pOp ixD (pVar 0) (pC (.int 1))) (pC (.str ">"))) (pVar 2))))))))))
noncomputable def F_shown_meaning : FN := runF 3 g_shown_meaning
noncomputable def g_shown_bed : FS := (sSeq (sAsg (pOp ixD (pVar 0) (pC (.int 0))) (gN 1))
  (sSeq (sAsg (pOp ixD (pVar 0) (pC (.int 3))) (gN 2))
  (sSeq (sAsg (pLst (aCons (pF2 "keys " " wait " (pVar 1) (pVar 2)) aNil)) (gN 3))
  (sSeq (sFor (iSeq (pOp ixD (pVar 0) (pC (.int 1)))) (gN 4) (sDrop (pApp 3 (pMs joinS (pC (.str " ")) (aCons (pOp addD (pLst (aCons (pC (.str "layer")) aNil)) (pComp 1 [] (iSeq (pVar 4)) (gN 0) qTrue (pCal F_shown_meaning 1 (aCons (pVar 0) aNil)))) aNil)))))
  (sSeq (sFor (iSeq (pOp ixD (pVar 0) (pC (.int 2)))) (gN 5) (sDrop (pApp 3 (pMs joinS (pC (.str " ")) (aCons (pLst (aCons (pC (.str "chord")) (aCons (pMs joinS (pC (.str "+")) (aCons (pComp 1 [] (iSeq (pOp ixD (pVar 5) (pC (.int 0)))) (gN 0) qTrue (pCB strS (aCons (pVar 0) aNil))) aNil)) (aCons (pOp ixD (pVar 5) (pC (.int 1))) aNil)))) aNil)))))
  (sRet (pMs joinS (pC (.str "\n")) (aCons (pVar 3) aNil))))))))
noncomputable def F_shown_bed : FN := runF 6 g_shown_bed
noncomputable def g_read_number : FS := (sSeq (sIf (qOr (qNot (pBool (pChain leD leD (pC (.int 1)) (pCB lenS (aCons (pVar 0) aNil)) (pC (.int 2))))) (qNot (pBool (pCB allD (aCons (pComp 1 [] (iSigns (pVar 0)) (gN 0) qTrue (pOp inS (pVar 0) (pC (.str "0123456789")))) aNil))))) (sRet (pC .none)) sNext)
  (sSeq (sIf (qAnd (pBool (pOp eqD (pCB lenS (aCons (pVar 0) aNil)) (pC (.int 2)))) (pBool (pOp eqD (pOp ixS (pVar 0) (pC (.int 0))) (pC (.str "0"))))) (sRet (pC .none)) sNext)
  (sRet (pCB intS (aCons (pVar 0) aNil)))))
noncomputable def F_read_number : FN := runF 1 g_read_number
noncomputable def g_all_read : FS := (sSeq (sIf (pBool (pOp inD (pC .none) (pVar 0))) (sRet (pC .none)) sNext)
  (sRet (pCB tupD (aCons (pVar 0) aNil))))
noncomputable def F_all_read : FN := runF 1 g_all_read
noncomputable def g_read_numbers : FS := (sSeq (sIf (qOr (pBool (pOp neD (pCB lenD (aCons (pVar 0) aNil)) (pC (.int 4)))) (qOr (pBool (pOp neD (pOp ixD (pVar 0) (pC (.int 0))) (pC (.str "keys")))) (pBool (pOp neD (pOp ixD (pVar 0) (pC (.int 2))) (pC (.str "wait")))))) (sRet (pC .none)) sNext)
  (sRet (pCal F_all_read 1 (aCons (pLst (aCons (pCal F_read_number 1 (aCons (pOp ixD (pVar 0) (pC (.int 1))) aNil)) (aCons (pCal F_read_number 1 (aCons (pOp ixD (pVar 0) (pC (.int 3))) aNil)) aNil))) aNil))))
noncomputable def F_read_numbers : FN := runF 1 g_read_numbers
noncomputable def g_is_letter : FS := (sRet (pAnd (pOp eqD (pCB lenS (aCons (pVar 0) aNil)) (pC (.int 1))) (pChain leS leS (pC (.str "a")) (pVar 0) (pC (.str "z")))))
noncomputable def F_is_letter : FN := runF 1 g_is_letter
noncomputable def g_read_meaning : FS := (sSeq (sIf (pBool (pOp eqD (pVar 0) (pC (.str ".")))) (sRet (pTup (aCons (pC (.str "none")) aNil))) sNext)
  (sSeq (sIf (pBool (pOp eqD (pVar 0) (pC (.str "_")))) (sRet (pTup (aCons (pC (.str "below")) aNil))) sNext)
  (sSeq (sIf (pBool (pCal F_is_letter 1 (aCons (pVar 0) aNil))) (sRet (pTup (aCons (pC (.str "letter")) (aCons (pVar 0) aNil)))) sNext)
  (sSeq (sIf (pBool (pMs startsS (pVar 0) (aCons (pC (.str "~")) aNil))) (sRet (pCal F_all_read 1 (aCons (pLst (aCons (pC (.str "once")) (aCons (pCal F_read_number 1 (aCons (pSl sliceS (pVar 0) (oSome (pC (.int 1))) oNone) aNil)) aNil))) aNil))) sNext)
  (sSeq (sIf (pBool (pMs startsS (pVar 0) (aCons (pC (.str ">")) aNil))) (sRet (pCal F_all_read 1 (aCons (pLst (aCons (pC (.str "layer")) (aCons (pCal F_read_number 1 (aCons (pSl sliceS (pVar 0) (oSome (pC (.int 1))) oNone) aNil)) aNil))) aNil))) sNext)
  (sSeq (sIf (qAnd (pBool (pCal F_is_letter 1 (aCons (pSl sliceS (pVar 0) oNone (oSome (pC (.int 1)))) aNil))) (pBool (pOp eqD (pSl sliceS (pVar 0) (oSome (pC (.int 1))) (oSome (pC (.int 2)))) (pC (.str ">"))))) (sRet (pCal F_all_read 1 (aCons (pLst (aCons (pC (.str "tap")) (aCons (pOp ixS (pVar 0) (pC (.int 0))) (aCons (pCal F_read_number 1 (aCons (pSl sliceS (pVar 0) (oSome (pC (.int 2))) oNone) aNil)) aNil)))) aNil))) sNext)
  (sRet (pC .none))))))))
noncomputable def F_read_meaning : FN := runF 1 g_read_meaning
noncomputable def g_read_layer : FS := (sSeq (sIf (qOr (pBool (pOp ltD (pCB lenD (aCons (pVar 0) aNil)) (pC (.int 2)))) (pBool (pOp neD (pOp ixD (pVar 0) (pC (.int 0))) (pC (.str "layer"))))) (sRet (pC .none)) sNext)
  (sRet (pCal F_all_read 1 (aCons (pComp 1 [] (iSeq (pSl slD (pVar 0) (oSome (pC (.int 1))) oNone)) (gN 0) qTrue (pCal F_read_meaning 1 (aCons (pVar 0) aNil))) aNil))))
noncomputable def F_read_layer : FN := runF 1 g_read_layer
noncomputable def g_read_parted : FS := (sRet (pCal F_all_read 1 (aCons (pComp 1 [] (iSeq (pMs splitS (pVar 0) (aCons (pVar 1) aNil))) (gN 0) qTrue (pCal F_read_number 1 (aCons (pVar 0) aNil))) aNil)))
noncomputable def F_read_parted : FN := runF 2 g_read_parted
noncomputable def g_read_chord : FS := (sSeq (sIf (qOr (pBool (pOp neD (pCB lenD (aCons (pVar 0) aNil)) (pC (.int 3)))) (qOr (pBool (pOp neD (pOp ixD (pVar 0) (pC (.int 0))) (pC (.str "chord")))) (qNot (pBool (pCal F_is_letter 1 (aCons (pOp ixD (pVar 0) (pC (.int 2))) aNil)))))) (sRet (pC .none)) sNext)
  (sSeq (sAsg (pCal F_read_parted 2 (aCons (pOp ixD (pVar 0) (pC (.int 1))) (aCons (pC (.str "+")) aNil))) (gN 1))
  (sSeq (sIf (pBool (pOp isnD (pVar 1) (pC .none))) (sRet (pC .none)) sNext)
  (sRet (pTup (aCons (pVar 1) (aCons (pOp ixD (pVar 0) (pC (.int 2))) aNil)))))))
noncomputable def F_read_chord : FN := runF 2 g_read_chord
noncomputable def g_check_numbers : FS := (sSeq (sIf (qOr (qNot (pBool (pChain leD leD (pC (.int 1)) (pOp ixD (pVar 0) (pC (.int 0))) (pC (.int 5))))) (qNot (pBool (pChain leD leD (pC (.int 1)) (pCB lenD (aCons (pOp ixD (pVar 0) (pC (.int 1))) aNil)) (pC (.int 3)))))) sNever sNext)
  (sIf (qOr (pBool (pOp gtD (pCB lenD (aCons (pOp ixD (pVar 0) (pC (.int 2))) aNil)) (pC (.int 4)))) (qNot (pBool (pChain leD leD (pC (.int 1)) (pOp ixD (pVar 0) (pC (.int 3))) (pC (.int 4)))))) sNever sNext))
noncomputable def F_check_numbers : FN := runF 1 g_check_numbers
noncomputable def g_may_mean : FS := (sSeq (sAsg (pOp ixD (pVar 0) (pC (.int 0))) (gN 3))
  (sSeq (sIf (pBool (pOp eqD (pVar 3) (pC (.str "below")))) (sRet (pOp neD (pVar 1) (pC (.int 0)))) sNext)
  (sSeq (sIf (qAnd (pBool (pOp inD (pVar 3) (pTup (aCons (pC (.str "letter")) (aCons (pC (.str "tap")) aNil))))) (qNot (pBool (pCal F_is_letter 1 (aCons (pOp ixD (pVar 0) (pC (.int 1))) aNil))))) (sRet (pC (.bool false))) sNext)
  (sSeq (sIf (pBool (pOp inD (pVar 3) (pTup (aCons (pC (.str "layer")) (aCons (pC (.str "tap")) (aCons (pC (.str "once")) aNil)))))) (sRet (pChain leD ltD (pC (.int 1)) (pOp ixD (pVar 0) (pUn negD (pC (.int 1)))) (pVar 2))) sNext)
  (sRet (pC (.bool true)))))))
noncomputable def F_may_mean : FN := runF 4 g_may_mean
noncomputable def g_check_layer : FS := (sSeq (sAsg (pOp ixD (pOp ixD (pVar 0) (pC (.int 1))) (pVar 1)) (gN 2))
  (sSeq (sIf (pBool (pOp neD (pCB lenD (aCons (pVar 2) aNil)) (pOp ixD (pVar 0) (pC (.int 0))))) sNever sNext)
  (sFor (L3.iEnum (aCons (pVar 2) aNil)) (gT 2 (gsC (gN 3) (gsC (gN 4) gsN))) (sIf (qNot (pBool (pCal F_may_mean 3 (aCons (pVar 4) (aCons (pVar 1) (aCons (pCB lenD (aCons (pOp ixD (pVar 0) (pC (.int 1))) aNil)) aNil)))))) sNever sNext))))
noncomputable def F_check_layer : FN := runF 5 g_check_layer
noncomputable def g_rises : FS := (sRet (pCB allD (aCons (pComp 2 [] (iZip (aCons (pVar 0) (aCons (pSl slD (pVar 0) (oSome (pC (.int 1))) oNone) aNil))) (gT 2 (gsC (gN 0) (gsC (gN 1) gsN))) qTrue (pOp ltD (pVar 0) (pVar 1))) aNil)))
noncomputable def F_rises : FN := runF 1 g_rises
noncomputable def g_is_chord_set : FS := (sSeq (sIf (qOr (pBool (pOp ltD (pCB lenD (aCons (pVar 1) aNil)) (pC (.int 2)))) (qNot (pBool (pCal F_rises 1 (aCons (pVar 1) aNil))))) (sRet (pC (.bool false))) sNext)
  (sRet (pCB allD (aCons (pComp 1 [0] (iSeq (pVar 1)) (gN 0) qTrue (pAnd (pChain leD ltD (pC (.int 0)) (pVar 0) (pOp ixD (pVar 1) (pC (.int 0)))) (pOp eqD (pOp ixD (pOp ixD (pOp ixD (pOp ixD (pVar 1) (pC (.int 1))) (pC (.int 0))) (pVar 0)) (pC (.int 0))) (pC (.str "letter"))))) aNil))))
noncomputable def F_is_chord_set : FN := runF 2 g_is_chord_set
noncomputable def g_check_chord : FS := (sSeq (sAsg (pOp ixD (pOp ixD (pOp ixD (pVar 0) (pC (.int 2))) (pVar 1)) (pC (.int 0))) (gN 2))
  (sSeq (sIf (qOr (qNot (pBool (pCal F_is_letter 1 (aCons (pOp ixD (pOp ixD (pOp ixD (pVar 0) (pC (.int 2))) (pVar 1)) (pC (.int 1))) aNil)))) (qNot (pBool (pCal F_is_chord_set 2 (aCons (pVar 0) (aCons (pVar 2) aNil)))))) sNever sNext)
  (sIf (pBool (pOp inD (pVar 2) (pComp 1 [] (iSeq (pSl slD (pOp ixD (pVar 0) (pC (.int 2))) oNone (oSome (pVar 1)))) (gN 0) qTrue (pOp ixD (pVar 0) (pC (.int 0)))))) sNever sNext)))
noncomputable def F_check_chord : FN := runF 3 g_check_chord
noncomputable def g_checked : FS := (sSeq (sDrop (pCal F_check_numbers 1 (aCons (pVar 0) aNil)))
  (sSeq (sFor (iRng rng1 (aCons (pCB lenD (aCons (pOp ixD (pVar 0) (pC (.int 1))) aNil)) aNil)) (gN 1) (sDrop (pCal F_check_layer 2 (aCons (pVar 0) (aCons (pVar 1) aNil)))))
  (sSeq (sFor (iRng rng1 (aCons (pCB lenD (aCons (pOp ixD (pVar 0) (pC (.int 2))) aNil)) aNil)) (gN 2) (sDrop (pCal F_check_chord 2 (aCons (pVar 0) (aCons (pVar 2) aNil)))))
  (sRet (pVar 0)))))
noncomputable def F_checked : FN := runF 3 g_checked
noncomputable def g_read_bed : FS := (sSeq (sAsg (pMs splitS (pVar 0) (aCons (pC (.str "\n")) aNil)) (gN 1))
  (sSeq (sAsg (pCal F_read_numbers 1 (aCons (pMs splitS (pOp ixD (pVar 1) (pC (.int 0))) (aCons (pC (.str " ")) aNil)) aNil)) (gN 2))
  (sSeq (sIf (pBool (pOp isnD (pVar 2) (pC .none))) sNever sNext)
  (sSeq (sAsg (pLst aNil) (gN 3))
  (sSeq (sAsg (pLst aNil) (gN 4))
  (sSeq (sFor (iEnum1 (aCons (pSl slD (pVar 1) (oSome (pC (.int 1))) oNone) aNil)) (gT 2 (gsC (gN 5) (gsC (gN 6) gsN))) (sSeq (sAsg (pMs splitS (pVar 6) (aCons (pC (.str " ")) aNil)) (gN 7))
  (sSeq (sAsg (pCal F_read_layer 1 (aCons (pVar 7) aNil)) (gN 8))
  (sSeq (sAsg (pCal F_read_chord 1 (aCons (pVar 7) aNil)) (gN 9))
  (sIf (qAnd (pBool (pOp ntnD (pVar 8) (pC .none))) (pBool (pOp eqD (pVar 4) (pLst aNil)))) (sDrop (pApp 3 (pVar 8))) (sIf (pBool (pOp ntnD (pVar 9) (pC .none))) (sDrop (pApp 4 (pVar 9))) sNever))))))
  (sRet (pCal F_checked 1 (aCons (pTup (aCons (pOp ixD (pVar 2) (pC (.int 0))) (aCons (pCB tupD (aCons (pVar 3) aNil)) (aCons (pCB tupD (aCons (pVar 4) aNil)) (aCons (pOp ixD (pVar 2) (pC (.int 1))) aNil))))) aNil)))))))))
noncomputable def F_read_bed : FN := runF 10 g_read_bed
noncomputable def g__law_whole : FS := (sRet (pAnd (pIsi "int" (pVar 0)) (pNot (pIsi "bool" (pVar 0)))))
noncomputable def F__law_whole : FN := runF 1 g__law_whole
noncomputable def g__law_like (R : FN) : FS := (sSeq (sIf (pBool (pIsi "tuple" (pVar 1))) (sSeq (sIf (qOr (qNot (pBool (pIsi "tuple" (pVar 0)))) (pBool (pOp neD (pCB lenD (aCons (pVar 0) aNil)) (pCB lenD (aCons (pVar 1) aNil))))) (sRet (pC (.bool false))) sNext)
  (sRet (pCB allD (aCons (pComp 2 [] (iZip (aCons (pVar 0) (aCons (pVar 1) aNil))) (gT 2 (gsC (gN 0) (gsC (gN 1) gsN))) qTrue (pCal R 2 (aCons (pVar 0) (aCons (pVar 1) aNil)))) aNil)))) sNext)
  (sSeq (sIf (pBool (pIsi "str" (pVar 1))) (sRet (pAnd (pIsi "str" (pVar 0)) (pOp eqD (pVar 0) (pVar 1)))) sNext)
  (sRet (pAnd (pCal F__law_whole 1 (aCons (pVar 0) aNil)) (pOp eqD (pVar 0) (pVar 1))))))
noncomputable def F__law_like_0 : FN := badF
noncomputable def F__law_like_1 : FN := runF 2 (g__law_like F__law_like_0)
noncomputable def F__law_like_2 : FN := runF 2 (g__law_like F__law_like_1)
noncomputable def F__law_like_3 : FN := runF 2 (g__law_like F__law_like_2)
noncomputable def F__law_like_4 : FN := runF 2 (g__law_like F__law_like_3)
noncomputable def F__law_like_5 : FN := runF 2 (g__law_like F__law_like_4)
noncomputable def F__law_like_6 : FN := runF 2 (g__law_like F__law_like_5)
noncomputable def g__law_there_and_back : FS := (sSeq (sAsg (pCal F__law_text 1 (aCons (pVar 0) aNil)) (gN 1))
  (sSeq (sAsg (pCal F_shown_bed 1 (aCons (pVar 0) aNil)) (gN 2))
  (sSeq (sIf (qOr (qNot (pBool (pIsi "str" (pVar 2)))) (pBool (pOp neD (pVar 2) (pVar 1)))) (sRet (pC (.bool false))) sNext)
  (sRet (pCal F__law_like_6 2 (aCons (pCal F_read_bed 1 (aCons (pVar 1) aNil)) (aCons (pVar 0) aNil)))))))
noncomputable def F__law_there_and_back : FN := runF 3 g__law_there_and_back
noncomputable def g_law : FS := (sSeq (sAsg (pCal F__law_bed 2 (aCons (pVar 0) (aCons (pC (.int 0)) aNil))) (gN 1))
  (sSeq (sAsg (pCal F__law_bed 2 (aCons (pVar 0) (aCons (pC (.int 22)) aNil))) (gN 2))
  (sSeq (sIf (qOr (qNot (pBool (pCal F__law_there_and_back 1 (aCons (pVar 1) aNil)))) (qNot (pBool (pCal F__law_there_and_back 1 (aCons (pVar 2) aNil))))) (sRet (pC (.bool false))) sNext)
  (sRet (pCal F__law_there_and_back 1 (aCons (pVar 1) aNil))))))
noncomputable def F_law : FN := runF 3 g_law
noncomputable def cutI (ns : List Int) (lo hi : Option Int) : List Int := (ns.drop (HT.sIx ns.length 0 lo)).take (HT.sIx ns.length ns.length hi - HT.sIx ns.length 0 lo)
/-! ### numbers -/
theorem cell_ok (ns : List Int) (k : Int) (hk : 0 ≤ k) (hl : ns.length ≤ 63) : ∃ c : Int, F__law_cell [.list (ns.map .int), .int k] = .ok (.fz (.int c)) := by
  unfold F__law_cell g__law_cell
  have e1 : slD (.list (ns.map .int)) (some k) (some (k + 1)) = some (.ow (cutD (ns.map .int) (some k) (some (k + 1)))) := rfl
  have hc : cutD (ns.map PyData.int) (some k) (some (k + 1)) = (cutI ns (some k) (some (k + 1))).map .int := by unfold cutD cutI; rw [List.length_map, List.map_take, List.map_drop]
  rw [hc] at e1
  have hcl : (cutI ns (some k) (some (k + 1))).length ≤ 63 := by
    unfold cutI
    rw [List.length_take, List.length_drop]
    omega
  generalize cutI ns (some k) (some (k + 1)) = cs at e1 hcl
  have e2 : addD (.list (cs.map .int)) (.list [.int 0]) = some (.ow (cs.map .int ++ [.int 0])) := by
    show (if (cs.map PyData.int).length + 1 ≤ 1000000 then _ else _) = _
    rw [List.length_map, if_pos (by omega)]
  cases cs with
  | nil =>
    have e3 : ixD (.list (([] : List Int).map PyData.int ++ [.int 0])) (.int 0) = some (.fz (.int 0)) := ixl0
    exact ⟨0, go_val (ρ := [some (.fz (.list (ns.map .int))), some (.fz (.int k))]) rfl (go_ret (by walk_at "ev") rfl rfl)⟩
  | cons c r =>
    have e3 : ixD (.list ((c :: r).map PyData.int ++ [.int 0])) (.int 0) = some (.fz (.int c)) := ixl0
    exact ⟨c, go_val (ρ := [some (.fz (.list (ns.map .int))), some (.fz (.int k))]) rfl (go_ret (by walk_at "ev") rfl rfl)⟩
theorem stirred_ok (c s : Int) (h0 : 0 ≤ s) (h1 : s ≤ 1000) : ∃ r : Int, 0 ≤ r ∧ F__law_stirred [.int c, .int s] = .ok (.fz (.int r)) := by
  unfold F__law_stirred g__law_stirred
  have b1 : 0 ≤ c % 1000000007 ∧ c % 1000000007 < 1000000007 := ⟨Int.emod_nonneg _ (by decide), Int.emod_lt_of_pos _ (by decide)⟩
  have m1 : modD (.int c) (.int 1000000007) = some (.fz (.int (c % 1000000007))) := tr_mod (by decide)
  have m2 : mulE (.int 13) (.int s) = some (.fz (.int (13 * s))) := trE_mulL ⟨by omega, by omega⟩
  generalize c % 1000000007 = x at b1 m1
  have m3 : mulE (.int s) (.int s) = some (.fz (.int (s * s))) := trE_mulL ⟨by omega, by omega⟩
  generalize s * s = ss at m3
  have m4 : mulE (.int (x + 13 * s)) (.int (x + 13 * s + ss + 11)) = some (.fz (.int ((x + 13 * s) * (x + 13 * s + ss + 11)))) := trE_mulL ⟨by omega, by omega⟩
  generalize (x + 13 * s) * (x + 13 * s + ss + 11) = y at m4
  have m5 : mulE (.int 40487) (.int s) = some (.fz (.int (40487 * s))) := trE_mulL ⟨by omega, by omega⟩
  have b2 : 0 ≤ (y + 40487 * s + 7) % 1000000033 ∧ (y + 40487 * s + 7) % 1000000033 < 1000000033 := ⟨Int.emod_nonneg _ (by decide), Int.emod_lt_of_pos _ (by decide)⟩
  have m6 : modD (.int (y + 40487 * s + 7)) (.int 1000000033) = some (.fz (.int ((y + 40487 * s + 7) % 1000000033))) := tr_mod (by decide)
  generalize (y + 40487 * s + 7) % 1000000033 = z at b2 m6
  have m7 : divD (.int z) (.int 7) = some (.fz (.int (z / 7))) := tr_div ⟨by omega, by omega⟩
  have m8 : mulE (.int z) (.int (z / 7 + 31)) = some (.fz (.int (z * (z / 7 + 31)))) := trE_mulL ⟨by omega, by omega⟩
  generalize z * (z / 7 + 31) = u at m8
  have b3 : 0 ≤ (u + 90001) % 999999937 := Int.emod_nonneg _ (by decide)
  have m9 : modD (.int (u + 90001)) (.int 999999937) = some (.fz (.int ((u + 90001) % 999999937))) := tr_mod (by decide)
  have m10 : divD (.int ((u + 90001) % 999999937)) (.int 3) = some (.fz (.int ((u + 90001) % 999999937 / 3))) := tr_div ⟨by omega, by omega⟩
  refine ⟨(u + 90001) % 999999937 / 3, by omega, go_val (ρ := [some (.fz (.int c)), some (.fz (.int s)), none]) rfl (go_seq (go_asg (by walk_at "ev") rfl (go_seq (go_asg (by walk_at "ev") rfl (go_ret (by walk_at "ev") rfl rfl)))))⟩
theorem max_nn (c : Int) : 0 ≤ if 0 - c > c then 0 - c else c := by split <;> omega
theorem wide_ok (c s : Int) (h0 : 0 ≤ s) (h1 : s ≤ 1000) : ∃ r : Int, 0 ≤ r ∧ F__law_wide [.int c, .int s] = .ok (.fz (.int r)) := by
  unfold F__law_wide g__law_wide
  obtain ⟨r, hr, er⟩ := stirred_ok c s h0 h1
  obtain ⟨q, hq, eq⟩ := stirred_ok r 3 (by decide) (by decide)
  have em : max2D [.int c, .int (0 - c)] = some (.fz (.int (if 0 - c > c then 0 - c else c))) := rfl
  have nn := max_nn c
  generalize (if 0 - c > c then 0 - c else c) = mx at em nn
  obtain ⟨rv, e, t⟩ := go_run (ds := [.int c, .int s]) (ρ := [some (.fz (.int c)), some (.fz (.int s))]) (n := 2) (g := g__law_wide) (T := fun v => ∃ r : Int, 0 ≤ r ∧ v = .fz (.int r)) rfl
    (go_seq (go_if (by walk_at "ev") (fun _ => go_ret (by walk_at "ev") rfl ⟨mx, nn, rfl⟩) (fun _ => go_next (go_ret (by walk_at "ev") rfl ⟨q, hq, rfl⟩))))
  obtain ⟨r, h, rfl⟩ := t
  exact ⟨r, h, e⟩
theorem stream_ok (c : Int) : ∃ xs : List Int, xs.length = 20 ∧ (∀ x ∈ xs, 0 ≤ x) ∧ F__law_stream [.int c, .int 20] = .ok (.ow (xs.map .int)) := by
  have nn := max_nn c
  have em : max2D [.int c, .int (0 - c)] = some (.fz (.int (if 0 - c > c then 0 - c else c))) := rfl
  generalize (if 0 - c > c then 0 - c else c) = mx at em nn
  have p8 := pow8
  have p24 := pow24
  have r20 : rng1 [.int 20] = some (nds (List.range 20)) := rng1_i (n := 20) (by decide) (by decide)
  have r3 : rng1 [.int 3] = some (nds (List.range 3)) := rng1_i (n := 3) (by decide) (by decide)
  obtain ⟨rv, e, xs, h1, h2, rfl⟩ := go_run (ds := [.int c, .int 20]) (ρ := [some (.fz (.int c)), some (.fz (.int 20)), none, none, none, none, none]) (n := 7) (g := g__law_stream) (T := fun v => ∃ xs : List Int, xs.length = 20 ∧ (∀ x ∈ xs, 0 ≤ x) ∧ v = .ow (xs.map .int)) rfl (by
    unfold g__law_stream
    walk_at "go"
    with_reducible apply gs_for (fun i ρ => ∃ (xs : List Int) (l : Int) (t4 t5 t6 : Option PV), ρ = [some (.fz (.int c)), some (.fz (.int 20)), some (.ow (xs.map .int)), some (.fz (.int l)), t4, t5, t6] ∧ xs.length = i ∧ (∀ x ∈ xs, 0 ≤ x) ∧ 0 ≤ l)
    · walk_at "ev"
    · exact ⟨[], mx, none, none, none, rfl, rfl, fun x h => (by cases h), nn⟩
    · rintro i d ρ hi ⟨xs, l, t4, t5, t6, rfl, hxl, hx, hl⟩
      obtain ⟨k, hk, rfl⟩ := nds_get hi
      have hk20 : k < 20 := List.mem_range.mp (List.mem_of_getElem? hk)
      have hi20 : i < 20 := by have := (List.getElem?_eq_some_iff.mp hk).1; simpa using this
      refine ⟨_, rfl, ?_⟩
      walk_at "go"
      with_reducible apply gs_for (fun i ρ => ∃ (x : Int) (t6 : Option PV), ρ = [some (.fz (.int c)), some (.fz (.int 20)), some (.ow (xs.map .int)), some (.fz (.int l)), some (.fz (nd k)), some (.fz (.int x)), t6] ∧ 0 ≤ x)
      · walk_at "ev"
      · exact ⟨0, t6, rfl, by decide⟩
      · rintro j d ρ hj ⟨x, t6, rfl, hx0⟩
        obtain ⟨jj, hjj, rfl⟩ := nds_get hj
        have hj3 : jj < 3 := List.mem_range.mp (List.mem_of_getElem? hjj)
        obtain ⟨r, hr, er⟩ := stirred_ok c (3 * (k : Int) + (jj : Int)) (by omega) (by omega)
        have m1 : mulE (.int 3) (nd k) = some (.fz (.int (3 * (k : Int)))) := trE_mulL ⟨by omega, by omega⟩
        have m2 : mulE (.int x) (.int (10 ^ 8)) = some (.fz (.int (x * 10 ^ 8))) := trE_mulR ⟨by decide, by decide⟩
        have m3 : modD (.int r) (.int (10 ^ 8)) = some (.fz (.int (r % 10 ^ 8))) := tr_mod (by decide)
        have n3 : 0 ≤ r % 10 ^ 8 := Int.emod_nonneg _ (by decide)
        refine ⟨_, rfl, ?_⟩
        walk_at "go"
        refine ⟨x * 10 ^ 8 + r % 10 ^ 8, _, rfl, ?_⟩
        have : 0 ≤ x * 10 ^ 8 := Int.mul_nonneg hx0 (by decide)
        omega
      · rintro ρ ⟨x, t6, rfl, hx0⟩
        have m3 : modD (.int l) (.int (10 ^ 24)) = some (.fz (.int (l % 10 ^ 24))) := tr_mod (by decide)
        have m4 : divD (.int l) (.int (10 ^ 24)) = some (.fz (.int (l / 10 ^ 24))) := tr_div ⟨by decide, by decide⟩
        have n3 : 0 ≤ l % 10 ^ 24 := Int.emod_nonneg _ (by decide)
        have n4 : 0 ≤ l / 10 ^ 24 := Int.ediv_nonneg hl (by decide)
        have fin : ∀ (x l : Int) (t6 : Option PV), 0 ≤ x → 0 ≤ l → Go (sDrop (pApp 2 (pVar 5)) [some (.fz (.int c)), some (.fz (.int 20)), some (.ow (xs.map .int)), some (.fz (.int l)), some (.fz (nd k)), some (.fz (.int x)), t6])
            (fun ρ => ∃ (xs : List Int) (l : Int) (t4 t5 t6 : Option PV), ρ = [some (.fz (.int c)), some (.fz (.int 20)), some (.ow (xs.map .int)), some (.fz (.int l)), t4, t5, t6] ∧ xs.length = i + 1 ∧ (∀ x ∈ xs, 0 ≤ x) ∧ 0 ≤ l)
            (fun ρ => ∃ (xs : List Int) (l : Int) (t4 t5 t6 : Option PV), ρ = [some (.fz (.int c)), some (.fz (.int 20)), some (.ow (xs.map .int)), some (.fz (.int l)), t4, t5, t6] ∧ xs.length = i + 1 ∧ (∀ x ∈ xs, 0 ≤ x) ∧ 0 ≤ l)
            (fun v => ∃ xs : List Int, xs.length = 20 ∧ (∀ x ∈ xs, 0 ≤ x) ∧ v = .ow (xs.map .int)) := fun x l t6 h0 h1 => by
          have hlen : (xs.map PyData.int).length < 1000000 := by rw [List.length_map]; omega
          refine go_drop (by walk_at "ev") ⟨xs ++ [x], l, _, _, _, by rw [List.map_append]; rfl, by rw [List.length_append, hxl]; rfl, fun y hy => ?_, h1⟩
          rcases List.mem_append.mp hy with z | z
          · exact hx y z
          · rw [List.mem_singleton.mp z]; exact h0
        have p18 := pow18
        walk_at "go"
        · intro _
          walk_at "go"
          exact fin _ _ _ n3 n4
        · intro _
          exact gs_next (fin _ _ _ hx0 hl)
    · rintro ρ ⟨xs, l, t4, t5, t6, rfl, hxl, hx, hl⟩
      exact go_ret (by walk_at "ev") rfl ⟨xs, hxl, hx, rfl⟩)
  exact ⟨xs, h1, h2, e⟩
/-! ### beds as they are drawn -/
noncomputable def ltr (c : Nat) : Str := ⟨#[97 + c]⟩
inductive Mn where
  | letter (c : Nat)
  | layer (n : Int)
  | tap (c : Nat) (n : Int)
  | once (n : Int)
  | none
  | below
noncomputable def mD : Mn → D
  | .letter c => .tuple [.str "letter", .str (ltr c)]
  | .layer n => .tuple [.str "layer", .int n]
  | .tap c n => .tuple [.str "tap", .str (ltr c), .int n]
  | .once n => .tuple [.str "once", .int n]
  | .none => .tuple [.str "none"]
  | .below => .tuple [.str "below"]
noncomputable def VM (L nL : Int) : Mn → Prop
  | .letter c => c < 26
  | .layer n => 1 ≤ n ∧ n < nL
  | .tap c n => c < 26 ∧ 1 ≤ n ∧ n < nL
  | .once n => 1 ≤ n ∧ n < nL
  | .none => True
  | .below => L ≠ 0
noncomputable def Mn.isL : Mn → Bool
  | .letter _ => true
  | _ => false
theorem letter_ok (x : Int) (h : 0 ≤ x) : ∃ c : Nat, c < 26 ∧ F__law_letter [.int x] = .ok (.fz (.str (ltr c))) := by
  unfold F__law_letter g__law_letter
  have b1 : 0 ≤ x % 26 ∧ x % 26 < 26 := ⟨Int.emod_nonneg _ (by decide), Int.emod_lt_of_pos _ (by decide)⟩
  have m1 : modD (.int x) (.int 26) = some (.fz (.int (x % 26))) := tr_mod (by decide)
  have tab : ∀ c, c < 26 → (("abcdefghijklmnopqrstuvwxyz" : Str).cps.toList)[c]? = some (97 + c) := by decide +kernel
  have ln : ("abcdefghijklmnopqrstuvwxyz" : Str).length ≤ 1000000 := by decide +kernel
  have m2 : ixS (.str "abcdefghijklmnopqrstuvwxyz") (.int (x % 26)) = some (.fz (.str (ltr (x % 26).toNat))) := by
    show (if ("abcdefghijklmnopqrstuvwxyz" : Str).length ≤ 1000000 then (atI ("abcdefghijklmnopqrstuvwxyz" : Str).cps.toList (x % 26)).map (fun c => RV.fz (.str ⟨#[c]⟩)) else none) = _
    rw [if_pos ln, atI_int b1.1 (tab (x % 26).toNat (by omega))]
    rfl
  exact ⟨(x % 26).toNat, by omega, go_val (ρ := [some (.fz (.int x))]) rfl (go_ret (by walk_at "ev") rfl rfl)⟩
theorem there_ok (x k nL : Int) (h : 0 ≤ x) (hk : 0 < k ∧ k < 2 ^ 128) (hn : 1 ≤ nL) : ∃ t : Int, 1 ≤ t ∧ (2 ≤ nL → t < nL) ∧ True ∧
    divD (.int x) (.int k) = some (.fz (.int (x / k))) ∧ max2D [.int 1, .int (nL - 1)] = some (.fz (.int (if nL - 1 > 1 then nL - 1 else 1))) ∧ modD (.int (x / k)) (.int (if nL - 1 > 1 then nL - 1 else 1)) = some (.fz (.int (t - 1))) ∧ addD (.int 1) (.int (t - 1)) = some (.fz (.int t)) := by
  have hp : 0 < if nL - 1 > 1 then nL - 1 else 1 := by split <;> omega
  have b1 : 0 ≤ (x / k) % (if nL - 1 > 1 then nL - 1 else 1) := Int.emod_nonneg _ (by omega)
  have b2 : (x / k) % (if nL - 1 > 1 then nL - 1 else 1) < (if nL - 1 > 1 then nL - 1 else 1) := Int.emod_lt_of_pos _ hp
  refine ⟨1 + (x / k) % (if nL - 1 > 1 then nL - 1 else 1), by omega, fun h2 => ?_, trivial, tr_div hk, rfl, ?_, ?_⟩
  · split at b2 <;> split <;> omega
  · rw [tr_mod hp]
    congr 3
    omega
  · rw [tr_add]
    congr 3
    omega
theorem meaning_ok (x L nL : Int) (h : 0 ≤ x) (hL : 0 ≤ L) (hn : 1 ≤ nL) : ∃ m, VM L nL m ∧ F__law_meaning [.int x, .int L, .int nL] = .ok (.fz (mD m)) := by
  have b1 : 0 ≤ x % 8 ∧ x % 8 < 8 := ⟨Int.emod_nonneg _ (by decide), Int.emod_lt_of_pos _ (by decide)⟩
  have m1 : modD (.int x) (.int 8) = some (.fz (.int (x % 8))) := tr_mod (by decide)
  have m2 : divD (.int x) (.int 8) = some (.fz (.int (x / 8))) := tr_div ⟨by decide, by decide⟩
  obtain ⟨c, hc, ec⟩ := letter_ok (x / 8) (by omega)
  obtain ⟨t, t1, t2, _, m3, m4, m5, m6⟩ := there_ok x 208 nL h ⟨by decide, by decide⟩ hn
  generalize x % 8 = s at b1 m1
  have e4 : ∀ a : Int, eqD (.int s) (.int a) = some (.fz (.bool (decide (s = a)))) := fun a => eqD_int _ _
  obtain ⟨rv, e, m, hm, rfl⟩ := go_run (ds := [.int x, .int L, .int nL]) (ρ := [some (.fz (.int x)), some (.fz (.int L)), some (.fz (.int nL)), none, none, none]) (n := 6) (g := g__law_meaning) (T := fun v => ∃ m, VM L nL m ∧ v = .fz (mD m)) rfl (by
    refine go_seq (go_asg (by walk_at "ev") rfl (go_seq (go_asg (by walk_at "ev") rfl (go_seq (go_if (by walk_at "ev") (fun _ => go_ret (by walk_at "ev") rfl ⟨.letter c, hc, rfl⟩) (fun q => go_next ?_))))))
    have q1 : ¬ s < 3 := by intro z; rw [decide_eq_true z] at q; cases q
    have q2 : ¬ (nL = 1 ∧ s < 7) := by
      rintro ⟨z1, z2⟩
      rw [decide_eq_true z1, decide_eq_true z2, Bool.and_self, Bool.or_true] at q
      cases q
    refine go_seq (go_asg (by walk_at "ev") rfl (go_seq (go_if (by walk_at "ev") (fun q => go_ret (by walk_at "ev") rfl ⟨.layer t, ⟨t1, t2 ?_⟩, rfl⟩) (fun q3 => go_next ?_))))
    · have := of_decide_eq_true q; omega
    refine go_seq (go_if (by walk_at "ev") (fun q => go_ret (by walk_at "ev") rfl ⟨.tap c t, ⟨hc, t1, t2 ?_⟩, rfl⟩) (fun q4 => go_next ?_))
    · have := of_decide_eq_true q; omega
    refine go_seq (go_if (by walk_at "ev") (fun q => go_ret (by walk_at "ev") rfl ⟨.once t, ⟨t1, t2 ?_⟩, rfl⟩) (fun q5 => go_next ?_))
    · have := of_decide_eq_true q; omega
    refine go_seq (go_if (by walk_at "ev") (fun q => go_ret (by walk_at "ev") rfl ⟨.below, ?_, rfl⟩) (fun q6 => go_next (go_ret (by walk_at "ev") rfl ⟨.none, True.intro, rfl⟩)))
    · have q' := (Bool.and_eq_true _ _ ▸ q : _ ∧ _).2
      have := of_decide_eq_true q'
      show L ≠ 0
      omega)
  exact ⟨m, hm, e⟩
theorem meaning_of_ok (x L nL : Int) (h : 0 ≤ x) (hL : 0 ≤ L) (hn : 1 ≤ nL) : ∃ m, VM L nL m ∧ F__law_meaning_of [.int x, .int L, .int nL] = .ok (.fz (mD m)) := by
  have b1 : 0 ≤ x % 6 ∧ x % 6 < 6 := ⟨Int.emod_nonneg _ (by decide), Int.emod_lt_of_pos _ (by decide)⟩
  have m1 : modD (.int x) (.int 6) = some (.fz (.int (x % 6))) := tr_mod (by decide)
  have m2 : divD (.int x) (.int 6) = some (.fz (.int (x / 6))) := tr_div ⟨by decide, by decide⟩
  obtain ⟨c, hc, ec⟩ := letter_ok (x / 6) (by omega)
  obtain ⟨t, t1, t2, _, m3, m4, m5, m6⟩ := there_ok x 156 nL h ⟨by decide, by decide⟩ hn
  generalize x % 6 = s at b1 m1
  obtain ⟨rv, e, m, hm, rfl⟩ := go_run (ds := [.int x, .int L, .int nL]) (ρ := [some (.fz (.int x)), some (.fz (.int L)), some (.fz (.int nL)), none, none, none, none]) (n := 7) (g := g__law_meaning_of) (T := fun v => ∃ m, VM L nL m ∧ v = .fz (mD m)) rfl (by
    refine go_seq (go_asg (by walk_at "ev") rfl (go_seq (go_asg (by walk_at "ev") rfl (go_seq (go_asg (by walk_at "ev") rfl (go_seq (go_asg (by walk_at "ev") rfl (go_seq ?_))))))))
    refine go_if (by walk_at "ev") (fun _ => go_asg (by walk_at "ev") rfl (go_ret (by walk_at "ev") rfl ⟨.none, True.intro, rfl⟩)) (fun q1 => ?_)
    refine go_if (by walk_at "ev") (fun q2 => go_asg (by walk_at "ev") rfl (go_ret (by walk_at "ev") rfl ⟨.below, ?_, rfl⟩)) (fun q2 => ?_)
    · have z2 := of_decide_eq_true q2
      show L ≠ 0
      intro z
      rw [decide_eq_true z2, decide_eq_true z, Bool.and_self, Bool.or_true] at q1
      cases q1
    refine go_if (by walk_at "ev") (fun q3 => ?_) (fun q3 => go_next (go_ret (by walk_at "ev") rfl ⟨.letter c, hc, rfl⟩))
    have z := (Bool.and_eq_true _ _ ▸ q3 : _ ∧ _)
    have z1 := of_decide_eq_true z.1
    have z2 := of_decide_eq_true z.2
    have s3 : s = 3 ∨ s = 4 ∨ s = 5 := by omega
    rcases s3 with rfl | rfl | rfl
    · have ix : ixD (.list [.tuple [.str "layer", .int t], .tuple [.str "tap", .str (ltr c), .int t], .tuple [.str "once", .int t]]) (.int (3 - 3)) = some (.fz (.tuple [.str "layer", .int t])) := ixLi (by decide) rfl
      exact go_asg (by walk_at "ev") rfl (go_ret (by walk_at "ev") rfl ⟨.layer t, ⟨t1, t2 (by omega)⟩, rfl⟩)
    · have ix : ixD (.list [.tuple [.str "layer", .int t], .tuple [.str "tap", .str (ltr c), .int t], .tuple [.str "once", .int t]]) (.int (4 - 3)) = some (.fz (.tuple [.str "tap", .str (ltr c), .int t])) := ixLi (by decide) rfl
      exact go_asg (by walk_at "ev") rfl (go_ret (by walk_at "ev") rfl ⟨.tap c t, ⟨hc, t1, t2 (by omega)⟩, rfl⟩)
    · have ix : ixD (.list [.tuple [.str "layer", .int t], .tuple [.str "tap", .str (ltr c), .int t], .tuple [.str "once", .int t]]) (.int (5 - 3)) = some (.fz (.tuple [.str "once", .int t])) := ixLi (by decide) rfl
      exact go_asg (by walk_at "ev") rfl (go_ret (by walk_at "ev") rfl ⟨.once t, ⟨t1, t2 (by omega)⟩, rfl⟩))
  exact ⟨m, hm, e⟩
/-! ### the bed itself -/
structure Bd where
  n : Int
  ls : List (List Mn)
  cs : List (List Nat × Nat)
  wt : Int
noncomputable def lyD (l : List Mn) : D := .tuple (l.map mD)
noncomputable def chD (c : List Nat × Nat) : D := .tuple [.tuple (nds c.1), .str (ltr c.2)]
noncomputable def bD (b : Bd) : D := .tuple [.int b.n, .tuple (b.ls.map lyD), .tuple (b.cs.map chD), .int b.wt]
noncomputable def VL (n nL : Int) (ls : List (List Mn)) : Prop := ∀ (i : Nat) l, ls[i]? = some l → (l.length : Int) = n ∧ ∀ m ∈ l, VM i nL m
noncomputable def okK (l0 : List Mn) (k : Nat) : Bool := (l0[k]?.map Mn.isL).getD false
noncomputable def VC (l0 : List Mn) (c : List Nat × Nat) : Prop := 2 ≤ c.1.length ∧ c.1.Pairwise (· < ·) ∧ (∀ k ∈ c.1, okK l0 k = true) ∧ c.2 < 26
structure VB (b : Bd) : Prop where
  n1 : 1 ≤ b.n
  n5 : b.n ≤ 5
  l1 : 1 ≤ b.ls.length
  l3 : b.ls.length ≤ 3
  vl : VL b.n b.ls.length b.ls
  c4 : b.cs.length ≤ 4
  vc : ∀ c ∈ b.cs, VC (b.ls.headD []) c
  cu : b.cs.Pairwise fun a c => a.1 ≠ c.1
  w1 : 1 ≤ b.wt
  w4 : b.wt ≤ 4
noncomputable def wd : Mn → Str
  | .letter _ => "letter"
  | .layer _ => "layer"
  | .tap _ _ => "tap"
  | .once _ => "once"
  | .none => "none"
  | .below => "below"
theorem wd_at (m : Mn) : ixD (mD m) (.int 0) = some (.fz (.str (wd m))) := by cases m <;> exact ixt0
theorem wd_letter (m : Mn) : eqD (.str (wd m)) (.str "letter") = some (.fz (.bool m.isL)) := by
  cases m with
  | letter c => exact eqS_t (a := "letter") (by decide +kernel)
  | layer n => exact eqS_f (a := "layer") (by decide +kernel) (by decide +kernel) (by decide +kernel)
  | tap c n => exact eqS_f (a := "tap") (by decide +kernel) (by decide +kernel) (by decide +kernel)
  | once n => exact eqS_f (a := "once") (by decide +kernel) (by decide +kernel) (by decide +kernel)
  | none => exact eqS_f (a := "none") (by decide +kernel) (by decide +kernel) (by decide +kernel)
  | below => exact eqS_f (a := "below") (by decide +kernel) (by decide +kernel) (by decide +kernel)
theorem comp_filt {ft : FT} {cs : PEnv} (p : Nat → Bool) (xs : List Nat) (hl : xs.length ≤ 1000000) (hk : forget cs = cs) (h : ∀ x ∈ xs, ft (some (.fz (nd x)) :: cs) = .ok (p x, some (.fz (nd x)) :: cs)) : noEr (compP (gN 0) ft (pVar 0) (nds xs) (none :: cs) []) = .ok (nds (xs.filter p)) := by
  rw [comp_eq (fun ρ => ∃ o, ρ = o :: cs) (fun d => match d with | .int i => if p i.toNat = true then some (.int i) else none | _ => none) ⟨none, rfl⟩ (by rw [nds_len]; exact hl) ?_, fm_flt (p := p) xs fun x _ => by show (if p ((x : Nat) : Int).toNat = true then _ else _) = _; rw [Int.toNat_natCast]]
  rintro d hd ρ ⟨o, rfl⟩
  obtain ⟨x, hx, rfl⟩ := List.mem_map.mp hd
  refine ⟨some (.fz (nd x)) :: cs, ?_, _, rfl⟩
  show compT _ _ _ (nd x) (o :: cs) = .ok ((if p ((x : Nat) : Int).toNat = true then some (nd x) else none), some (.fz (nd x)) :: cs)
  rw [Int.toNat_natCast]
  have fg : forget (some (PV.fz (nd x)) :: cs) = some (.fz (nd x)) :: cs := by
    show keepF _ :: forget cs = _
    rw [hk]; rfl
  have h' := h x hx
  cases q : p x with
  | true =>
    rw [q] at h'
    rw [if_pos rfl]
    exact ct_t rfl h' rfl rfl fg
  | false =>
    rw [q] at h'
    rw [if_neg Bool.false_ne_true]
    exact ct_f rfl h' fg
noncomputable def pw (k : Nat) : Int := match k with
  | 0 => 1
  | 1 => 2
  | 2 => 4
  | 3 => 8
  | _ => 16
theorem pw_ok (k : Nat) (h : k < 5) : ixD (.list [.int 1, .int 2, .int 4, .int 8, .int 16]) (nd k) = some (.fz (.int (pw k))) ∧ 0 < pw k ∧ pw k < 2 ^ 128 := by
  have : k = 0 ∨ k = 1 ∨ k = 2 ∨ k = 3 ∨ k = 4 := by omega
  rcases this with rfl | rfl | rfl | rfl | rfl <;> exact ⟨ixL rfl, by decide, by decide⟩
noncomputable def bitK (x : Int) (k : Nat) : Bool := decide (x / pw k % 2 = 1)
/-- the keys that are letters on layer 0 -/
noncomputable def plainK (n : Int) (l0 : List Mn) : List Nat := (List.range n.toNat).filter (okK l0)
theorem plain_lt {n : Int} {l0 : List Mn} (h : n ≤ 5) : ∀ k ∈ plainK n l0, k < 5 := fun k hk => by
  have := List.mem_range.mp (List.mem_filter.mp hk).1
  omega
theorem plain_len {n : Int} {l0 : List Mn} (h : n ≤ 5) : (plainK n l0).length ≤ 5 := by
  have h1 := List.length_filter_le (okK l0) (List.range n.toNat)
  rw [List.length_range] at h1
  unfold plainK
  omega
theorem plain_ok {n : Int} {l0 : List Mn} {r : List (List Mn)} (h1 : 0 ≤ n) (h5 : n ≤ 5) (hl : (l0.length : Int) = n) : noEr (compP (gN 0) (pBool (pOp eqD (pOp ixD (pOp ixD (pOp ixD (pVar 1) (pC (.int 0))) (pVar 0)) (pC (.int 0))) (pC (.str "letter")))) (pVar 0) (nds (List.range n.toNat)) [none, some (.fz (.list ((l0 :: r).map lyD)))] []) = .ok (nds (plainK n l0)) := by
  refine comp_filt (okK l0) _ (by rw [List.length_range]; omega) rfl fun x hx => ?_
  have hx := List.mem_range.mp hx
  have hxl : x < l0.length := by omega
  have e1 : ixD (.list ((l0 :: r).map lyD)) (.int 0) = some (.fz (lyD l0)) := ixl0
  have e2 : ixD (lyD l0) (nd x) = some (.fz (mD l0[x])) := ixT (by rw [List.getElem?_map, List.getElem?_eq_getElem hxl]; rfl)
  have e3 := wd_at l0[x]
  have e4 := wd_letter l0[x]
  have e5 : okK l0 x = l0[x].isL := by unfold okK; rw [List.getElem?_eq_getElem hxl]; rfl
  rw [e5]
  walk_at "ev"
theorem some_ok {ps : List Nat} {x : Int} (hp : ∀ k ∈ ps, k < 5) (hl : ps.length ≤ 5) : noEr (compP (gN 0) (pBool (pOp eqD (pOp modD (pOp divD (pVar 1) (pOp ixD (pLst (aCons (pC (.int 1)) (aCons (pC (.int 2)) (aCons (pC (.int 4)) (aCons (pC (.int 8)) (aCons (pC (.int 16)) aNil)))))) (pVar 0))) (pC (.int 2))) (pC (.int 1)))) (pVar 0) (nds ps) [none, some (.fz (.int x))] []) = .ok (nds (ps.filter (bitK x))) := by
  refine comp_filt (bitK x) _ (by omega) rfl fun k hk => ?_
  obtain ⟨e1, e2, e3⟩ := pw_ok k (hp k hk)
  have e4 : divD (.int x) (.int (pw k)) = some (.fz (.int (x / pw k))) := tr_div ⟨e2, e3⟩
  have e5 : modD (.int (x / pw k)) (.int 2) = some (.fz (.int (x / pw k % 2))) := tr_mod (by decide)
  have e6 : eqD (.int (x / pw k % 2)) (.int 1) = some (.fz (.bool (bitK x k))) := eqD_int _ _
  walk_at "ev"
noncomputable def tps (Ks : List (List Nat)) : List D := Ks.map fun K => .tuple (nds K)
theorem tps_lay : ∀ Ks : List (List Nat), PyData.canLayAll0 (tps Ks) = true
  | [] => rfl
  | K :: r => by
    show (PyData.canLayAll0 (nds K) && PyData.canLayAll0 (tps r)) = true
    rw [lay_nds, tps_lay r]; rfl
theorem tps_any (s : List Nat) : ∀ Ks : List (List Nat), ((tps Ks).any fun e => PyData.eqv e (.tuple (nds s))) = decide (s ∈ Ks)
  | [] => rfl
  | K :: r => by
    show (PyData.eqvAll (nds K) (nds s) || (tps r).any fun e => PyData.eqv e (.tuple (nds s))) = _
    rw [tps_any s r, eqv_nds]
    by_cases h : K = s
    · rw [decide_eq_true h, decide_eq_true (show s ∈ K :: r by rw [h]; exact List.mem_cons_self), Bool.true_or]
    · rw [decide_eq_false h, Bool.false_or]
      by_cases g : s ∈ r
      · rw [decide_eq_true g, decide_eq_true (List.mem_cons_of_mem _ g)]
      · rw [decide_eq_false g, decide_eq_false (fun z => (List.mem_cons.mp z).elim (fun e => h e.symm) g)]
theorem nin_tps (s : List Nat) (Ks : List (List Nat)) : ninD (.tuple (nds s)) (.list (tps Ks)) = some (.fz (.bool (!decide (s ∈ Ks)))) := by
  show (if (okD (.tuple (nds s)) && PyData.canLayAll0 (tps Ks)) = true then _ else _) = _
  rw [ok_tup, tps_lay, Bool.and_self, if_pos rfl, tps_any]
theorem in_tps (s : List Nat) (Ks : List (List Nat)) : inD (.tuple (nds s)) (.list (tps Ks)) = some (.fz (.bool (decide (s ∈ Ks)))) := by
  show (if (okD (.tuple (nds s)) && PyData.canLayAll0 (tps Ks)) = true then _ else _) = _
  rw [ok_tup, tps_lay, Bool.and_self, if_pos rfl, tps_any]
theorem sets_comp (cs : List (List Nat × Nat)) (hl : cs.length ≤ 1000) (fe : FE) (cp : PEnv) (hc : forget cp = cp) (he : ∀ c, fe (some (.fz (chD c)) :: cp) = .ok (.fz (.tuple (nds c.1)), some (.fz (chD c)) :: cp)) : noEr (compP (gN 0) qTrue fe (cs.map chD) (none :: cp) []) = .ok (tps (cs.map (·.1))) := by
  obtain ⟨xs, h1, h2, h3⟩ := comp_map (gt := gN 0) (ft := qTrue) (fe := fe) (ds := cs.map chD) (ρ := none :: cp) (fun ρ => ∃ o, ρ = o :: cp) (fun i x => ∃ c, cs[i]? = some c ∧ x = .tuple (nds c.1)) ⟨none, rfl⟩ (by rw [List.length_map]; omega) (by
    rintro i d hi ρ ⟨o, rfl⟩
    rw [List.getElem?_map] at hi
    cases q : cs[i]? with
    | none => rw [q] at hi; cases hi
    | some c =>
      rw [q] at hi
      cases hi
      have fg : forget (some (PV.fz (chD c)) :: cp) = some (.fz (chD c)) :: cp := by
        show keepF _ :: forget cp = _
        rw [hc]; rfl
      exact ⟨_, _, ct_t rfl rfl (he c) rfl fg, ⟨_, rfl⟩, c, rfl, rfl⟩)
  rw [h1]
  congr 1
  refine List.ext_getElem? fun i => ?_
  unfold tps
  rw [List.getElem?_map, List.getElem?_map]
  cases q : xs[i]? with
  | none =>
    have : cs.length ≤ i := by
      have := List.getElem?_eq_none_iff.mp q
      rw [h2, List.length_map] at this
      exact this
    rw [List.getElem?_eq_none this]; rfl
  | some x =>
    obtain ⟨c, h4, rfl⟩ := h3 i x q
    rw [h4]; rfl
theorem chord_go {ρ : PEnv} {a b c : Nat} {s : List Nat} {cs : List (List Nat × Nat)} {x : Int} {N C : PEnv → Prop} {T : RV → Prop} (ha : ρ[a]? = some (some (.fz (.tuple (nds s))))) (hb : ρ[b]? = some (some (.ow (cs.map chD)))) (hc : ρ[c]? = some (some (.fz (.int x)))) (hx : 0 ≤ x) (hl : cs.length ≤ 1000)
    (h1 : N ρ) (h2 : ∀ l, l < 26 → 2 ≤ s.length → s ∉ cs.map (·.1) → N (ρ.set b (some (.ow ((cs ++ [(s, l)]).map chD))))) :
    Go (sIf (qAnd (pBool (pOp gtD (pCB lenD (aCons (pVar a) aNil)) (pC (.int 1)))) (pBool (pOp ninD (pVar a) (pComp 1 [] (iKeep b) (gN 0) qTrue (pOp ixD (pVar 0) (pC (.int 0))))))) (sDrop (pApp b (pTup (aCons (pVar a) (aCons (pCal F__law_letter 1 (aCons (pOp divD (pVar c) (pC (.int 32))) aNil)) aNil))))) sNext ρ) N C T := by
  have va : pVar a ρ = .ok (.fz (.tuple (nds s)), ρ) := ev_var ha
  have vc : pVar c ρ = .ok (.fz (.int x), ρ) := ev_var hc
  have cmp : pComp 1 [] (iKeep b) (gN 0) qTrue (pOp ixD (pVar 0) (pC (.int 0))) ρ = .ok (.ow (tps (cs.map (·.1))), ρ) := ev_comp (by unfold iKeep; rw [hb]; rfl) rfl (sets_comp cs hl _ [] rfl fun c => ev_op (rv := .fz (.tuple (nds c.1))) (ev_var rfl) ev_c rfl rfl ixt0)
  have en := nin_tps s (cs.map (·.1))
  have eg : gtD (nd (nds s).length) (.int 1) = some (.fz (.bool (decide ((1 : Int) < ((nds s).length : Nat))))) := rfl
  have ed : divD (.int x) (.int 32) = some (.fz (.int (x / 32))) := tr_div ⟨by decide, by decide⟩
  obtain ⟨l, hl26, el⟩ := letter_ok (x / 32) (by omega)
  refine go_if (b := decide ((1 : Int) < ((nds s).length : Nat)) && !decide (s ∈ cs.map (·.1))) (ρ1 := ρ) (ev_qand (ev_bool (ev_op (ev_cb (ev_cons va ev_nil) rfl (lenD_tup _)) ev_c rfl rfl eg) rfl) fun _ => ev_bool (ev_op va cmp rfl rfl en) rfl) (fun q => ?_) fun _ => go_next h1
  have q' := (Bool.and_eq_true _ _ ▸ q : _ ∧ _)
  have q1 := of_decide_eq_true q'.1
  rw [nds_len] at q1
  have q2 : s ∉ cs.map (·.1) := fun z => by rw [decide_eq_true z] at q'; cases q'.2
  refine go_drop (pv := .fz .none) (ρ1 := ρ.set b (some (.ow ((cs ++ [(s, l)]).map chD)))) (ev_app (d := chD (s, l)) (ds := cs.map chD) (ρ2 := ρ) hb (ev_tup (ev_cons va (ev_cons (ev_cal (ev_cons (ev_op vc ev_c rfl rfl ed) ev_nil) rfl rfl el) ev_nil)) rfl (by show 2 ≤ 1000; decide)) rfl hb (by rw [List.length_map]; omega) (by rw [List.map_append]; rfl)) (h2 l hl26 (by omega) q2)
theorem range_at {n i k : Nat} (h : (List.range n)[i]? = some k) : k = i ∧ i < n := by
  obtain ⟨h1, h2⟩ := List.getElem?_eq_some_iff.mp h
  rw [List.getElem_range] at h2
  rw [List.length_range] at h1
  exact ⟨h2.symm, h1⟩
theorem ints_at {xs : List Int} {i : Int} (h0 : 0 ≤ i) (h : i.toNat < xs.length) : ixD (.list (xs.map .int)) (.int i) = some (.fz (.int xs[i.toNat])) := ixLi h0 (by rw [List.getElem?_map, List.getElem?_eq_getElem h]; rfl)
theorem VL.snoc {n nL : Int} {ls : List (List Mn)} {ms : List Mn} (h : VL n nL ls) (h1 : (ms.length : Int) = n) (h2 : ∀ m ∈ ms, VM ls.length nL m) : VL n nL (ls ++ [ms]) := by
  intro i l hi
  rw [List.getElem?_append] at hi
  split at hi
  · exact h i l hi
  · rename_i hn
    have e : i = ls.length := by
      have := (List.getElem?_eq_some_iff.mp hi).1
      rw [List.length_singleton] at this
      omega
    subst e
    rw [Nat.sub_self] at hi
    cases hi
    exact ⟨h1, h2⟩
theorem VM_of {k : Nat} {nL : Int} {ms : List Mn} (h : ∀ (i : Nat) m, ms[i]? = some m → VM k nL m) : ∀ m ∈ ms, VM k nL m := fun m hm => by
  obtain ⟨i, hi⟩ := List.mem_iff_getElem?.mp hm
  exact h i m hi
theorem sub_vc {n : Int} {l0 : List Mn} {x : Int} (h : 2 ≤ ((plainK n l0).filter (bitK x)).length) {l : Nat} (hl : l < 26) : VC l0 ((plainK n l0).filter (bitK x), l) := by
  refine ⟨h, ?_, fun k hk => ?_, hl⟩
  · exact List.Pairwise.filter _ (List.Pairwise.filter _ List.pairwise_lt_range)
  · exact (List.mem_filter.mp (List.mem_filter.mp hk).1).2
theorem cs_snoc {l0 : List Mn} {cs : List (List Nat × Nat)} {c : List Nat × Nat} (h1 : ∀ c ∈ cs, VC l0 c) (h2 : VC l0 c) : ∀ d ∈ cs ++ [c], VC l0 d := fun d hd => by
  rcases List.mem_append.mp hd with z | z
  · exact h1 d z
  · rw [List.mem_singleton.mp z]; exact h2
theorem cu_snoc {cs : List (List Nat × Nat)} {s : List Nat} {l : Nat} (h1 : cs.Pairwise fun a c => a.1 ≠ c.1) (h2 : s ∉ cs.map (·.1)) : (cs ++ [(s, l)]).Pairwise fun a c => a.1 ≠ c.1 := by
  refine List.pairwise_append.mpr ⟨h1, List.pairwise_singleton _ _, fun a ha b hb => ?_⟩
  rw [List.mem_singleton.mp hb]
  exact fun z => h2 (List.mem_map.mpr ⟨a, ha, z⟩)
theorem read_bed_ok (xs : List Int) (hl : xs.length = 20) (hx : ∀ x ∈ xs, 0 ≤ x) : ∃ b, VB b ∧ F__law_read_bed [.list (xs.map .int)] = .ok (.fz (bD b)) := by
  have e0 : ixD (.list (xs.map .int)) (.int 0) = some (.fz (.int xs[0])) := ints_at (i := 0) (by decide) (by rw [hl]; decide)
  have hx0 : 0 ≤ xs[0] := hx _ (List.getElem_mem _)
  generalize xs[0] = x0 at e0 hx0
  have m1 : modD (.int x0) (.int 5) = some (.fz (.int (x0 % 5))) := tr_mod (by decide)
  have m2 : divD (.int x0) (.int 5) = some (.fz (.int (x0 / 5))) := tr_div ⟨by decide, by decide⟩
  have m3 : modD (.int (x0 / 5)) (.int 3) = some (.fz (.int (x0 / 5 % 3))) := tr_mod (by decide)
  have m4 : divD (.int x0) (.int 60) = some (.fz (.int (x0 / 60))) := tr_div ⟨by decide, by decide⟩
  have m5 : modD (.int (x0 / 60)) (.int 5) = some (.fz (.int (x0 / 60 % 5))) := tr_mod (by decide)
  have m6 : divD (.int x0) (.int 15) = some (.fz (.int (x0 / 15))) := tr_div ⟨by decide, by decide⟩
  have m7 : modD (.int (x0 / 15)) (.int 4) = some (.fz (.int (x0 / 15 % 4))) := tr_mod (by decide)
  obtain ⟨n, hn⟩ : ∃ n, n = 1 + x0 % 5 := ⟨_, rfl⟩
  obtain ⟨nL, hnL⟩ : ∃ n, n = 1 + x0 / 5 % 3 := ⟨_, rfl⟩
  have a1 : addD (.int 1) (.int (x0 % 5)) = some (.fz (.int n)) := by rw [hn]; rfl
  have a2 : addD (.int 1) (.int (x0 / 5 % 3)) = some (.fz (.int nL)) := by rw [hnL]; rfl
  have n1 : 1 ≤ n ∧ n ≤ 5 := by omega
  have l1 : 1 ≤ nL ∧ nL ≤ 3 := by omega
  have rn : rng1 [.int nL] = some (nds (List.range nL.toNat)) := rng1_i (by omega) (by omega)
  have rk : rng1 [.int n] = some (nds (List.range n.toNat)) := rng1_i (by omega) (by omega)
  have hcl : (cutI xs (some 16) (some (16 + x0 / 60 % 5))).length ≤ 4 := by
    unfold cutI
    rw [List.length_take, List.length_drop, hl]
    have : HT.sIx 20 0 (some 16) = 16 := by decide
    omega
  have hcm : ∀ x ∈ cutI xs (some 16) (some (16 + x0 / 60 % 5)), 0 ≤ x := fun x h => hx x (List.mem_of_mem_drop (List.mem_of_mem_take h))
  have hsl : slD (.list (xs.map .int)) (some 16) (some (16 + x0 / 60 % 5)) = some (.ow ((cutI xs (some 16) (some (16 + x0 / 60 % 5))).map .int)) := by
    show some (RV.ow (cutD _ _ _)) = _
    unfold cutD cutI
    rw [List.length_map, List.map_take, List.map_drop]
  generalize cutI xs (some 16) (some (16 + x0 / 60 % 5)) = ct at hcl hcm hsl
  obtain ⟨rv, e, b, hb, rfl⟩ := go_run (ds := [.list (xs.map .int)]) (ρ := [some (.fz (.list (xs.map .int))), none, none, none, none, none, none, none, none]) (n := 9) (g := g__law_read_bed) (T := fun v => ∃ b, VB b ∧ v = .fz (bD b)) rfl (by
    unfold g__law_read_bed
    walk_at "go"
    with_reducible apply gs_for (fun i ρ => ∃ (ls : List (List Mn)) (t4 : Option PV), ρ = [some (.fz (.list (xs.map .int))), some (.fz (.int n)), some (.fz (.int nL)), some (.ow (ls.map lyD)), t4, none, none, none, none] ∧ ls.length = i ∧ VL n nL ls)
    · walk_at "ev"
    · exact ⟨[], none, rfl, rfl, fun i l h => by simp at h⟩
    · rintro i d ρ hi ⟨ls, t4, rfl, hls, hv⟩
      obtain ⟨k, hk, rfl⟩ := nds_get hi
      obtain ⟨rfl, hkl⟩ := range_at hk
      obtain ⟨ys, c1, c2, c3⟩ := comp_map (gt := gN 0) (ft := qTrue) (fe := pCal F__law_meaning_of 3 (aCons (pOp ixD (pVar 1) (pOp addD (pOp addD (pC (.int 1)) (pOp mulE (pC (.int 5)) (pVar 2))) (pVar 0))) (aCons (pVar 2) (aCons (pVar 3) aNil)))) (ds := nds (List.range n.toNat)) (ρ := [none, some (.fz (.list (xs.map .int))), some (.fz (nd k)), some (.fz (.int nL))])
        (fun ρ => ∃ o, ρ = [o, some (.fz (.list (xs.map .int))), some (.fz (nd k)), some (.fz (.int nL))]) (fun _ x => ∃ m, x = mD m ∧ VM k nL m) ⟨none, rfl⟩ (by rw [nds_len, List.length_range]; omega) (by
          rintro j d hj ρ ⟨o, rfl⟩
          obtain ⟨y, hy, rfl⟩ := nds_get hj
          obtain ⟨rfl, hyl⟩ := range_at hy
          have m8 : mulE (.int 5) (nd k) = some (.fz (.int (5 * (k : Int)))) := trE_mulL ⟨by decide, by decide⟩
          have e1 := ints_at (xs := xs) (i := 1 + 5 * (k : Int) + (y : Int)) (by omega) (by omega)
          obtain ⟨m, hm, em⟩ := meaning_of_ok _ k nL (hx _ (List.getElem_mem (by omega : (1 + 5 * (k : Int) + (y : Int)).toNat < xs.length))) (by omega) l1.1
          exact ⟨_, _, ct_t rfl rfl (by walk_at "ev") rfl rfl, ⟨_, rfl⟩, m, rfl, hm⟩)
      obtain ⟨ms, rfl, hms⟩ := list_of (f := mD) (Q := fun _ m => VM k nL m) ys 0 (by simpa using c3)
      rw [List.length_map, nds_len, List.length_range] at c2
      have hlen : (ls.map lyD).length < 1000000 := by rw [List.length_map]; omega
      refine ⟨_, rfl, go_drop (pv := .fz .none) (ev_app rfl (ev_cb (ev_cons (ev_comp (by walk_at "ev") rfl c1) ev_nil) rfl rfl) rfl rfl hlen rfl) ⟨ls ++ [ms], _, by rw [List.map_append]; rfl, by rw [List.length_append, hls]; rfl, hv.snoc (by omega) (by rw [hls]; exact VM_of fun i m h => hms i m h)⟩⟩
    · rintro ρ ⟨ls, t4, rfl, hls, hv⟩
      rw [nds_len, List.length_range] at hls
      cases ls with
      | nil => rw [List.length_nil] at hls; omega
      | cons l0 r =>
        have hl0 := (hv 0 l0 rfl).1
        refine gs_asg (ev_comp (by walk_at "ev") rfl (plain_ok (r := r) (by omega) n1.2 hl0)) rfl (by walk_at "nm") ?_
        walk_at "go"
        with_reducible apply gs_for (fun i ρ => ∃ (cs : List (List Nat × Nat)) (t7 t8 : Option PV), ρ = [some (.fz (.list (xs.map .int))), some (.fz (.int n)), some (.fz (.int nL)), some (.fz (.list ((l0 :: r).map lyD))), t4, some (.ow (nds (plainK n l0))), some (.ow (cs.map chD)), t7, t8] ∧ cs.length ≤ i ∧ (∀ c ∈ cs, VC l0 c) ∧ cs.Pairwise fun a c => a.1 ≠ c.1)
        · walk_at "ev"
        · exact ⟨[], none, none, rfl, Nat.le_refl _, fun c h => (by cases h), List.Pairwise.nil⟩
        · rintro i d ρ hi ⟨cs, t7, t8, rfl, hcs, hvc, hcu⟩
          rw [List.getElem?_map] at hi
          cases q : ct[i]? with
          | none => rw [q] at hi; cases hi
          | some x =>
            rw [q] at hi
            cases hi
            have hxx : 0 ≤ x := hcm x (List.mem_of_getElem? q)
            have hil := (List.getElem?_eq_some_iff.mp q).1
            refine ⟨_, rfl, gs_asg (ev_cb (ev_cons (ev_comp rfl rfl (some_ok (x := x) (plain_lt n1.2) (plain_len n1.2))) ev_nil) rfl rfl) rfl (by walk_at "nm") ?_⟩
            refine chord_go (s := (plainK n l0).filter (bitK x)) (cs := cs) (x := x) rfl rfl rfl hxx (by omega) ⟨cs, _, _, rfl, by omega, hvc, hcu⟩ fun l hl26 h2 hni => ⟨cs ++ [((plainK n l0).filter (bitK x), l)], _, _, rfl, by rw [List.length_append, List.length_singleton]; omega, cs_snoc hvc (sub_vc h2 hl26), cu_snoc hcu hni⟩
        · rintro ρ ⟨cs, t7, t8, rfl, hcs, hvc, hcu⟩
          rw [List.length_map] at hcs
          walk_at "go"
          refine ⟨⟨n, l0 :: r, cs, 1 + x0 / 15 % 4⟩, ⟨n1.1, n1.2, by show 1 ≤ r.length + 1; omega, by show (l0 :: r).length ≤ 3; omega, ?_, by show cs.length ≤ 4; omega, hvc, hcu, by show 1 ≤ 1 + x0 / 15 % 4; omega, by show 1 + x0 / 15 % 4 ≤ 4; omega⟩, rfl⟩
          have : (((l0 :: r).length : Nat) : Int) = nL := by omega
          show VL n (((l0 :: r).length : Nat) : Int) (l0 :: r)
          rw [this]
          exact hv)
  exact ⟨b, hb, e⟩
theorem pick2 {a b : Int} (r : Bool) : ixD (.list [.int a, .int b]) (.int (if r then 1 else 0)) = some (.fz (.int (if r = true then b else a))) := by
  cases r with
  | true => exact ixl1
  | false => exact ixl0
noncomputable def allL (l : List Mn) : Prop := ∀ m ∈ l, m.isL = true
theorem allL_ok {l : List Mn} (h : allL l) {k : Nat} (hk : k < l.length) : okK l k = true := by
  unfold okK
  rw [List.getElem?_eq_getElem hk]
  exact h _ (List.getElem_mem hk)
theorem rich_set {n : Int} {l0 : List Mn} (hl : (l0.length : Int) = n) (h3 : 3 ≤ n) (hn5 : n ≤ 5) (ha : allL l0) {j : Int} (h0 : 0 ≤ j) (h4 : j < 4) : ∃ s : List Nat, ixD (.list [.tuple [.int 0, .int 1], .tuple [.int 1, .int 2], .tuple [.int 0, .int 1, .int 2], .tuple [.int 0, .int (n - 1)]]) (.int j) = some (.fz (.tuple (nds s))) ∧
    2 ≤ s.length ∧ s.Pairwise (· < ·) ∧ ∀ k ∈ s, okK l0 k = true := by
  have ok : ∀ k : Nat, (k : Int) < n → okK l0 k = true := fun k hk => allL_ok ha (by omega)
  have hj : j = 0 ∨ j = 1 ∨ j = 2 ∨ j = 3 := by omega
  rcases hj with rfl | rfl | rfl | rfl
  · refine ⟨[0, 1], ixLi (by decide) rfl, by decide, by decide, fun k hk => ok k ?_⟩
    simp only [List.mem_cons, List.not_mem_nil, or_false] at hk
    omega
  · refine ⟨[1, 2], ixLi (by decide) rfl, by decide, by decide, fun k hk => ok k ?_⟩
    simp only [List.mem_cons, List.not_mem_nil, or_false] at hk
    omega
  · refine ⟨[0, 1, 2], ixLi (by decide) rfl, by decide, by decide, fun k hk => ok k ?_⟩
    simp only [List.mem_cons, List.not_mem_nil, or_false] at hk
    omega
  · refine ⟨[0, (n - 1).toNat], ixLi (by decide) ?_, by show 2 ≤ 2; decide, ?_, fun k hk => ok k ?_⟩
    · show some (PyData.tuple [.int 0, .int (n - 1)]) = some (.tuple [.int ((0 : Nat) : Int), .int ((n - 1).toNat : Int)])
      rw [show ((n - 1).toNat : Int) = n - 1 by omega]
      rfl
    · refine List.pairwise_cons.mpr ⟨fun b hb => ?_, List.pairwise_singleton _ _⟩
      rw [List.mem_singleton.mp hb]
      omega
    · simp only [List.mem_cons, List.not_mem_nil, or_false] at hk
      omega
theorem letters_ok (rs : List Int) (h0 : ∀ r ∈ rs, 0 ≤ r) (hl : rs.length ≤ 5) : ∃ ms : List Mn, noEr (compP (gN 0) qTrue (pTup (aCons (pC (.str "letter")) (aCons (pCal F__law_letter 1 (aCons (pOp divD (pVar 0) (pC (.int 8))) aNil)) aNil))) (rs.map .int) [none] []) = .ok (ms.map mD) ∧ ms.length = rs.length ∧ allL ms ∧ ∀ (L nL : Int), ∀ m ∈ ms, VM L nL m := by
  obtain ⟨ys, c1, c2, c3⟩ := comp_map (gt := gN 0) (ft := qTrue) (fe := pTup (aCons (pC (.str "letter")) (aCons (pCal F__law_letter 1 (aCons (pOp divD (pVar 0) (pC (.int 8))) aNil)) aNil))) (ds := rs.map .int) (ρ := [none])
    (fun ρ => ∃ o, ρ = [o]) (fun _ x => ∃ m, x = mD m ∧ ∃ c, c < 26 ∧ m = Mn.letter c) ⟨none, rfl⟩ (by rw [List.length_map]; omega) (by
      rintro j d hj ρ ⟨o, rfl⟩
      rw [List.getElem?_map] at hj
      cases q : rs[j]? with
      | none => rw [q] at hj; cases hj
      | some r =>
        rw [q] at hj
        cases hj
        have hr := h0 r (List.mem_of_getElem? q)
        have m1 : divD (.int r) (.int 8) = some (.fz (.int (r / 8))) := tr_div ⟨by decide, by decide⟩
        obtain ⟨c, hc, ec⟩ := letter_ok (r / 8) (by omega)
        exact ⟨_, _, ct_t rfl rfl (by walk_at "ev") rfl rfl, ⟨_, rfl⟩, .letter c, rfl, c, hc, rfl⟩)
  obtain ⟨ms, rfl, hms⟩ := list_of (f := mD) (Q := fun _ m => ∃ c, c < 26 ∧ m = Mn.letter c) ys 0 (by simpa using c3)
  refine ⟨ms, c1, by rw [List.length_map, List.length_map] at c2; exact c2, fun m hm => ?_, fun L nL m hm => ?_⟩
  · obtain ⟨i, hi⟩ := List.mem_iff_getElem?.mp hm
    obtain ⟨c, _, rfl⟩ := hms i m hi
    rfl
  · obtain ⟨i, hi⟩ := List.mem_iff_getElem?.mp hm
    obtain ⟨c, hc, rfl⟩ := hms i m hi
    exact hc
theorem bed_ok (ns : List Int) (hns : ns.length ≤ 63) (a : Int) (ha : 0 ≤ a) (ha2 : a ≤ 100) : ∃ b, VB b ∧ F__law_bed [.list (ns.map .int), .int a] = .ok (.fz (bD b)) := by
  obtain ⟨c, hc⟩ := cell_ok ns a ha hns
  obtain ⟨xs, x1, x2, x3⟩ := stream_ok c
  obtain ⟨b0, hb0, eb0⟩ := read_bed_ok xs x1 x2
  obtain ⟨w, hw, ew⟩ := wide_ok c a ha (by omega)
  have p18 := pow18
  have m1 : divD (.int w) (.int 60) = some (.fz (.int (w / 60))) := tr_div ⟨by decide, by decide⟩
  have m2 : modD (.int (w / 60)) (.int 4) = some (.fz (.int (w / 60 % 4))) := tr_mod (by decide)
  obtain ⟨rich, hrich⟩ : ∃ b : Bool, b = decide (w / 60 % 4 = 1) := ⟨_, rfl⟩
  have m3 : eqD (.int (w / 60 % 4)) (.int 1) = some (.fz (.bool rich)) := by rw [hrich]; exact eqD_int _ _
  have m4 : modD (.int w) (.int 5) = some (.fz (.int (w % 5))) := tr_mod (by decide)
  have m5 : modD (.int w) (.int 3) = some (.fz (.int (w % 3))) := tr_mod (by decide)
  have i1 : intD [.bool rich] = some (.fz (.int (if rich then 1 else 0))) := rfl
  obtain ⟨n, hn⟩ : ∃ n : Int, n = if rich = true then 3 + w % 3 else 1 + w % 5 := ⟨_, rfl⟩
  have i2 : ixD (.list [.int (1 + w % 5), .int (3 + w % 3)]) (.int (if rich then 1 else 0)) = some (.fz (.int n)) := by rw [hn]; exact pick2 rich
  have n1 : 1 ≤ n ∧ n ≤ 5 := by rw [hn]; split <;> omega
  have n3 : rich = true → 3 ≤ n := fun z => by rw [hn, if_pos z]; omega
  have m6 : divD (.int w) (.int 5) = some (.fz (.int (w / 5))) := tr_div ⟨by decide, by decide⟩
  have m7 : modD (.int (w / 5)) (.int 3) = some (.fz (.int (w / 5 % 3))) := tr_mod (by decide)
  obtain ⟨nL, hnL⟩ : ∃ n, n = 1 + w / 5 % 3 := ⟨_, rfl⟩
  have a2 : addD (.int 1) (.int (w / 5 % 3)) = some (.fz (.int nL)) := by rw [hnL]; rfl
  have l1 : 1 ≤ nL ∧ nL ≤ 3 := by omega
  have rn : rng1 [.int nL] = some (nds (List.range nL.toNat)) := rng1_i (by omega) (by omega)
  have rk : rng1 [.int n] = some (nds (List.range n.toNat)) := rng1_i (by omega) (by omega)
  have m8 : divD (.int w) (.int 15) = some (.fz (.int (w / 15))) := tr_div ⟨by decide, by decide⟩
  have m9 : modD (.int (w / 15)) (.int 4) = some (.fz (.int (w / 15 % 4))) := tr_mod (by decide)
  have m10 : divD (.int w) (.int 240) = some (.fz (.int (w / 240))) := tr_div ⟨by decide, by decide⟩
  have m11 : modD (.int (w / 240)) (.int 4) = some (.fz (.int (w / 240 % 4))) := tr_mod (by decide)
  have m12 : divD (.int w) (.int 960) = some (.fz (.int (w / 960))) := tr_div ⟨by decide, by decide⟩
  obtain ⟨c16, hc16⟩ := cell_ok ns (a + 16) (by omega) hns
  obtain ⟨w16, hw16, ew16⟩ := wide_ok c16 16 (by decide) (by decide)
  have m13 : modD (.int w16) (.int 5) = some (.fz (.int (w16 % 5))) := tr_mod (by decide)
  obtain ⟨nC, hnC⟩ : ∃ n : Int, n = if rich = true then 1 + w / 240 % 4 else w16 % 5 := ⟨_, rfl⟩
  have i3 : ixD (.list [.int (w16 % 5), .int (1 + w / 240 % 4)]) (.int (if rich then 1 else 0)) = some (.fz (.int nC)) := by rw [hnC]; exact pick2 rich
  have c4 : 0 ≤ nC ∧ nC ≤ 4 := by rw [hnC]; split <;> omega
  have rc : rng1 [.int nC] = some (nds (List.range nC.toNat)) := rng1_i (by omega) (by omega)
  obtain ⟨rv, e, b, hb, rfl⟩ := go_run (ds := [.list (ns.map .int), .int a]) (ρ := [some (.fz (.list (ns.map .int))), some (.fz (.int a)), none, none, none, none, none, none, none, none, none, none, none]) (n := 13) (g := g__law_bed) (T := fun v => ∃ b, VB b ∧ v = .fz (bD b)) rfl (by
    unfold g__law_bed
    walk_at "go"
    · intro _
      walk_at "go"
      exact ⟨b0, hb0, rfl⟩
    intro _
    walk_at "go"
    with_reducible apply gs_for (fun i ρ => ∃ (ls : List (List Mn)) (t6 t7 : Option PV), ρ = [some (.fz (.list (ns.map .int))), some (.fz (.int a)), some (.fz (.int w)), some (.fz (.bool rich)), some (.fz (.int n)), some (.ow (ls.map lyD)), t6, t7, none, none, none, none, none] ∧ ls.length = i ∧ VL n nL ls ∧ (rich = true → ∀ l, ls.head? = some l → allL l))
    · walk_at "ev"
    · exact ⟨[], none, none, rfl, rfl, fun i l h => by simp at h, fun _ l h => by simp at h⟩
    · rintro i d ρ hi ⟨ls, t6, t7, rfl, hls, hv, hh⟩
      obtain ⟨k, hk, rfl⟩ := nds_get hi
      obtain ⟨rfl, hkl⟩ := range_at hk
      have mk : mulE (.int 5) (nd k) = some (.fz (.int (5 * (k : Int)))) := trE_mulL ⟨by decide, by decide⟩
      obtain ⟨ys, c1, c2, c3⟩ := comp_map (gt := gN 0) (ft := qTrue) (fe := pCal F__law_wide 2 (aCons (pCal F__law_cell 2 (aCons (pVar 1) (aCons (pOp addD (pOp addD (pOp addD (pVar 2) (pC (.int 1))) (pOp mulE (pC (.int 5)) (pVar 3))) (pVar 0)) aNil))) (aCons (pOp addD (pOp mulE (pC (.int 5)) (pVar 3)) (pVar 0)) aNil))) (ds := nds (List.range n.toNat)) (ρ := [none, some (.fz (.list (ns.map .int))), some (.fz (.int a)), some (.fz (nd k))])
        (fun ρ => ∃ o, ρ = [o, some (.fz (.list (ns.map .int))), some (.fz (.int a)), some (.fz (nd k))]) (fun _ x => ∃ r : Int, x = .int r ∧ 0 ≤ r) ⟨none, rfl⟩ (by rw [nds_len, List.length_range]; omega) (by
          rintro j d hj ρ ⟨o, rfl⟩
          obtain ⟨y, hy, rfl⟩ := nds_get hj
          obtain ⟨rfl, hyl⟩ := range_at hy
          obtain ⟨cc, hcc⟩ := cell_ok ns (a + 1 + 5 * (k : Int) + (y : Int)) (by omega) hns
          obtain ⟨ww, hww, eww⟩ := wide_ok cc (5 * (k : Int) + (y : Int)) (by omega) (by omega)
          exact ⟨_, _, ct_t rfl rfl (by walk_at "ev") rfl rfl, ⟨_, rfl⟩, ww, rfl, hww⟩)
      obtain ⟨rs, rfl, hrs⟩ := list_of (f := PyData.int) (Q := fun _ r => (0 : Int) ≤ r) ys 0 (by simpa using c3)
      have hr0 : ∀ r ∈ rs, 0 ≤ r := fun r hr => by
        obtain ⟨i, hi⟩ := List.mem_iff_getElem?.mp hr
        exact hrs i r hi
      rw [List.length_map, nds_len, List.length_range] at c2
      obtain ⟨zs, d1, d2, d3⟩ := comp_map (gt := gN 0) (ft := qTrue) (fe := pCal F__law_meaning 3 (aCons (pVar 0) (aCons (pVar 1) (aCons (pOp addD (pC (.int 1)) (pOp modD (pOp divD (pVar 2) (pC (.int 5))) (pC (.int 3)))) aNil)))) (ds := rs.map .int) (ρ := [none, some (.fz (nd k)), some (.fz (.int w))])
        (fun ρ => ∃ o, ρ = [o, some (.fz (nd k)), some (.fz (.int w))]) (fun _ x => ∃ m, x = mD m ∧ VM k nL m) ⟨none, rfl⟩ (by rw [List.length_map]; omega) (by
          rintro j d hj ρ ⟨o, rfl⟩
          rw [List.getElem?_map] at hj
          cases q : rs[j]? with
          | none => rw [q] at hj; cases hj
          | some r =>
            rw [q] at hj
            cases hj
            obtain ⟨m, hm, em⟩ := meaning_ok r k nL (hr0 r (List.mem_of_getElem? q)) (by omega) l1.1
            exact ⟨_, _, ct_t rfl rfl (by walk_at "ev") rfl rfl, ⟨_, rfl⟩, m, rfl, hm⟩)
      obtain ⟨ms, rfl, hms⟩ := list_of (f := mD) (Q := fun _ m => VM k nL m) zs 0 (by simpa using d3)
      rw [List.length_map, List.length_map] at d2
      obtain ⟨qs, q1, q2, q3, q4⟩ := letters_ok rs hr0 (by omega)
      have hlen : (ls.map lyD).length < 1000000 := by rw [List.length_map]; omega
      have hv2 : VL n nL (ls ++ [ms]) := hv.snoc (by omega) (by rw [hls]; exact VM_of fun i m h => hms i m h)
      refine ⟨_, rfl, gs_asg (ev_comp (by walk_at "ev") rfl c1) rfl (by walk_at "nm") (gs_drop (pv := .fz .none) (ev_app rfl (ev_cb (ev_cons (ev_comp rfl rfl d1) ev_nil) rfl rfl) rfl rfl hlen rfl) ?_)⟩
      refine go_if (b := rich && decide ((k : Int) = 0)) (by walk_at "ev") (fun q => ?_) (fun q => go_next ⟨ls ++ [ms], _, _, by rw [List.map_append]; rfl, by rw [List.length_append, hls]; rfl, hv2, fun z l hl => ?_⟩)
      · have q' := (Bool.and_eq_true _ _ ▸ q : _ ∧ _)
        have hk0 := of_decide_eq_true q'.2
        refine go_asg (ev_lst (ev_cons (ev_cb (ev_cons (ev_comp rfl rfl q1) ev_nil) rfl rfl) ev_nil) rfl (by show 1 ≤ 1000; decide)) rfl ⟨[qs], _, _, rfl, by show 1 = k + 1; omega, ?_, fun _ l hl => by cases hl; exact q3⟩
        intro i l hi
        have : i = 0 := by
          have := (List.getElem?_eq_some_iff.mp hi).1
          rw [List.length_singleton] at this
          omega
        subst this
        cases hi
        exact ⟨by omega, fun m hm => q4 _ _ m hm⟩
      · cases ls with
        | cons l0 r => exact hh z l (by simpa using hl)
        | nil =>
          rw [List.length_nil] at hls
          rw [z, decide_eq_true (by omega)] at q
          cases q
    · rintro ρ ⟨ls, t6, t7, rfl, hls, hv, hh⟩
      rw [nds_len, List.length_range] at hls
      cases ls with
      | nil => rw [List.length_nil] at hls; omega
      | cons l0 r =>
        have hl0 := (hv 0 l0 rfl).1
        have hall : rich = true → allL l0 := fun z => hh z l0 rfl
        refine gs_asg (ev_comp (by walk_at "ev") rfl (plain_ok (r := r) (by omega) n1.2 hl0)) rfl (by walk_at "nm") ?_
        walk_at "go"
        with_reducible apply gs_for (fun i ρ => ∃ (cs : List (List Nat × Nat)) (t10 t11 t12 : Option PV), ρ = [some (.fz (.list (ns.map .int))), some (.fz (.int a)), some (.fz (.int w)), some (.fz (.bool rich)), some (.fz (.int n)), some (.fz (.list ((l0 :: r).map lyD))), t6, t7, some (.ow (nds (plainK n l0))), some (.ow (cs.map chD)), t10, t11, t12] ∧ cs.length ≤ i ∧ (∀ c ∈ cs, VC l0 c) ∧ cs.Pairwise fun a c => a.1 ≠ c.1)
        · walk_at "ev"
        · exact ⟨[], none, none, none, rfl, Nat.le_refl _, fun c h => (by cases h), List.Pairwise.nil⟩
        · rintro i d ρ hi ⟨cs, t10, t11, t12, rfl, hcs, hvc, hcu⟩
          obtain ⟨k, hk, rfl⟩ := nds_get hi
          obtain ⟨rfl, hkl⟩ := range_at hk
          obtain ⟨cc, hcc⟩ := cell_ok ns (a + 17 + (k : Int)) (by omega) hns
          obtain ⟨x, hxx, ex⟩ := wide_ok cc (17 + (k : Int)) (by omega) (by omega)
          refine ⟨_, rfl, gs_asg (by walk_at "ev") rfl (by walk_at "nm") (gs_asg (ev_cb (ev_cons (ev_comp rfl rfl (some_ok (x := x) (plain_lt n1.2) (plain_len n1.2))) ev_nil) rfl rfl) rfl (by walk_at "nm") ?_)⟩
          refine gs_if (b := rich) (by walk_at "ev") (fun q => ?_) (fun q => gs_next ?_)
          · have b4 : 0 ≤ ((k : Int) + w / 960) % 4 ∧ ((k : Int) + w / 960) % 4 < 4 := ⟨Int.emod_nonneg _ (by decide), Int.emod_lt_of_pos _ (by decide)⟩
            have m14 : modD (.int ((k : Int) + w / 960)) (.int 4) = some (.fz (.int (((k : Int) + w / 960) % 4))) := tr_mod (by decide)
            obtain ⟨s, s1, s2, s3, s4⟩ := rich_set hl0 (n3 q) n1.2 (hall q) b4.1 b4.2
            refine gs_asg (by walk_at "ev") rfl (by walk_at "nm") ?_
            exact chord_go (s := s) (cs := cs) (x := x) rfl rfl rfl hxx (by omega) ⟨cs, _, _, _, rfl, by omega, hvc, hcu⟩ fun l hl26 h2 hni => ⟨cs ++ [(s, l)], _, _, _, rfl, by rw [List.length_append, List.length_singleton]; omega, cs_snoc hvc ⟨s2, s3, s4, hl26⟩, cu_snoc hcu hni⟩
          · exact chord_go (s := (plainK n l0).filter (bitK x)) (cs := cs) (x := x) rfl rfl rfl hxx (by omega) ⟨cs, _, _, _, rfl, by omega, hvc, hcu⟩ fun l hl26 h2 hni => ⟨cs ++ [((plainK n l0).filter (bitK x), l)], _, _, _, rfl, by rw [List.length_append, List.length_singleton]; omega, cs_snoc hvc (sub_vc h2 hl26), cu_snoc hcu hni⟩
        · rintro ρ ⟨cs, t10, t11, t12, rfl, hcs, hvc, hcu⟩
          rw [nds_len, List.length_range] at hcs
          walk_at "go"
          refine ⟨⟨n, l0 :: r, cs, 1 + w / 15 % 4⟩, ⟨n1.1, n1.2, by show 1 ≤ r.length + 1; omega, by show (l0 :: r).length ≤ 3; omega, ?_, by show cs.length ≤ 4; omega, hvc, hcu, by show 1 ≤ 1 + w / 15 % 4; omega, by show 1 + w / 15 % 4 ≤ 4; omega⟩, rfl⟩
          have : (((l0 :: r).length : Nat) : Int) = nL := by omega
          show VL n (((l0 :: r).length : Nat) : Int) (l0 :: r)
          rw [this]
          exact hv)
  exact ⟨b, hb, e⟩
/-! ### what the program says of such a bed -/
theorem go_t {b : Bool} {x : Bool} (h : b = x) : some (RV.fz (.bool b)) = some (.fz (.bool x)) := by rw [h]
theorem all_true {xs : List D} (h : ∀ (i : Nat) (x : D), xs[i]? = some x → x = .bool true) : allD [.list xs] = some (.fz (.bool true)) := by
  have : asBs xs = some (List.replicate xs.length true) := by
    induction xs with
    | nil => rfl
    | cons x r ih =>
      have e : x = .bool true := h 0 x rfl
      subst e
      show (asBs r).map (true :: ·) = _
      rw [ih fun i y hy => h (i + 1) y (by simpa using hy)]
      rfl
  show (asBs xs).map (fun bs => RV.fz (.bool (bs.all id))) = _
  rw [this]
  show some (RV.fz (.bool _)) = _
  congr 3
  rw [List.all_eq_true]
  intro b hb
  rw [(List.mem_replicate.mp hb).2]
  rfl
theorem in2 {a b c : Str} {v : Bool} (ha : PyData.strOk a = true) (hb : PyData.strOk b = true) (hc : PyData.strOk c = true) (h : (b == a || c == a) = v) : inD (.str a) (.tuple [.str b, .str c]) = some (.fz (.bool v)) := by rw [inS2 ha hb hc, h]
theorem in3 {a b c e : Str} {v : Bool} (ha : PyData.strOk a = true) (hb : PyData.strOk b = true) (hc : PyData.strOk c = true) (he : PyData.strOk e = true) (h : (b == a || (c == a || e == a)) = v) : inD (.str a) (.tuple [.str b, .str c, .str e]) = some (.fz (.bool v)) := by rw [inS3 ha hb hc he, h]
section
variable {b : Bd}
theorem b_0 : ixD (bD b) (.int 0) = some (.fz (.int b.n)) := ixt0
theorem b_1 : ixD (bD b) (.int 1) = some (.fz (.tuple (b.ls.map lyD))) := ixt1
theorem b_2 : ixD (bD b) (.int 2) = some (.fz (.tuple (b.cs.map chD))) := ixt2
theorem b_3 : ixD (bD b) (.int 3) = some (.fz (.int b.wt)) := ixTi (by decide) rfl
theorem numbers_ok (h : VB b) : F_check_numbers [bD b] = .ok (.fz .none) := by
  unfold F_check_numbers
  have e0 := b_0 (b := b)
  have e1 := b_1 (b := b)
  have e2 := b_2 (b := b)
  have e3 := b_3 (b := b)
  have l1 : (1 : Int) ≤ ((b.ls.map lyD).length : Nat) := by rw [List.length_map]; have := h.l1; omega
  have l3 : (((b.ls.map lyD).length : Nat) : Int) ≤ 3 := by rw [List.length_map]; have := h.l3; omega
  have c4 : ¬ (4 : Int) < ((b.cs.map chD).length : Nat) := by rw [List.length_map]; have := h.c4; omega
  refine go_val (ρ := [some (.fz (bD b))]) rfl ?_
  unfold g_check_numbers
  walk_at "go"
  · intro q
    rw [decide_eq_true h.n1, decide_eq_true h.n5, decide_eq_true l1, decide_eq_true l3] at q
    cases q
  intro _
  walk_at "go"
  · intro q
    rw [decide_eq_false c4, decide_eq_true h.w1, decide_eq_true h.w4] at q
    cases q
  intro _
  exact go_next rfl
theorem is_letter_ok {c : Nat} (h : c < 26) : F_is_letter [.str (ltr c)] = .ok (.fz (.bool true)) := by
  have t1 : ∀ c, c < 26 → leSt "a" (ltr c) = true := by decide +kernel
  have t2 : ∀ c, c < 26 → leSt (ltr c) "z" = true := by decide +kernel
  have e1 : lenS [.str (ltr c)] = some (.fz (.int 1)) := rfl
  have e2 : leS (.str "a") (.str (ltr c)) = some (.fz (.bool true)) := go_t (t1 c h)
  have e3 : leS (.str (ltr c)) (.str "z") = some (.fz (.bool true)) := go_t (t2 c h)
  refine go_val (ρ := [some (.fz (.str (ltr c)))]) rfl ?_
  unfold g_is_letter
  walk_at "go"
  rfl
theorem may_mean_ok {L nL : Int} {m : Mn} (h : VM L nL m) : F_may_mean [mD m, .int L, .int nL] = .ok (.fz (.bool true)) := by
  refine go_val (ρ := [some (.fz (mD m)), some (.fz (.int L)), some (.fz (.int nL)), none]) rfl ?_
  unfold g_may_mean
  cases m with
  | below =>
    have e0 : ixD (mD (.below)) (.int 0) = some (.fz (.str "below")) := ixt0
    have eb : eqD (.str "below") (.str "below") = some (.fz (.bool true)) := eqS_t (by decide +kernel)
    walk_at "go"
    · intro _
      walk_at "go"
      show RV.fz (.bool (!decide (L = 0))) = _
      rw [decide_eq_false (show ¬ L = 0 from h)]
      rfl
    · intro q; cases q
  | none =>
    have e0 : ixD (mD (.none)) (.int 0) = some (.fz (.str "none")) := ixt0
    have eb : eqD (.str "none") (.str "below") = some (.fz (.bool false)) := eqS_f (by decide +kernel) (by decide +kernel) (by decide +kernel)
    have i2 : inD (.str "none") (.tuple [.str "letter", .str "tap"]) = some (.fz (.bool false)) := in2 (by decide +kernel) (by decide +kernel) (by decide +kernel) (by decide +kernel)
    have i3 : inD (.str "none") (.tuple [.str "layer", .str "tap", .str "once"]) = some (.fz (.bool false)) := in3 (by decide +kernel) (by decide +kernel) (by decide +kernel) (by decide +kernel) (by decide +kernel)
    walk_at "go"
    · intro q; cases q
    intro _
    walk_at "go"
    refine gs_if (b := false) (ev_qand (a := false) (b := false) (by walk_at "ev") fun z => by cases z) (fun z => by cases z) fun _ => ?_
    walk_at "go"
    · intro q; cases q
    intro _
    walk_at "go"
    rfl
  | letter c =>
    have e0 : ixD (mD (.letter c)) (.int 0) = some (.fz (.str "letter")) := ixt0
    have eb : eqD (.str "letter") (.str "below") = some (.fz (.bool false)) := eqS_f (by decide +kernel) (by decide +kernel) (by decide +kernel)
    have i2 : inD (.str "letter") (.tuple [.str "letter", .str "tap"]) = some (.fz (.bool true)) := in2 (by decide +kernel) (by decide +kernel) (by decide +kernel) (by decide +kernel)
    have i3 : inD (.str "letter") (.tuple [.str "layer", .str "tap", .str "once"]) = some (.fz (.bool false)) := in3 (by decide +kernel) (by decide +kernel) (by decide +kernel) (by decide +kernel) (by decide +kernel)
    have e1 : ixD (mD (.letter c)) (.int 1) = some (.fz (.str (ltr c))) := ixt1
    have el := is_letter_ok (show c < 26 from h)
    walk_at "go"
    · intro q; cases q
    intro _
    walk_at "go"
    · intro q; cases q
    intro _
    walk_at "go"
    · intro q; cases q
    intro _
    walk_at "go"
    rfl
  | layer n =>
    have e0 : ixD (mD (.layer n)) (.int 0) = some (.fz (.str "layer")) := ixt0
    have eb : eqD (.str "layer") (.str "below") = some (.fz (.bool false)) := eqS_f (by decide +kernel) (by decide +kernel) (by decide +kernel)
    have i2 : inD (.str "layer") (.tuple [.str "letter", .str "tap"]) = some (.fz (.bool false)) := in2 (by decide +kernel) (by decide +kernel) (by decide +kernel) (by decide +kernel)
    have i3 : inD (.str "layer") (.tuple [.str "layer", .str "tap", .str "once"]) = some (.fz (.bool true)) := in3 (by decide +kernel) (by decide +kernel) (by decide +kernel) (by decide +kernel) (by decide +kernel)
    have e1 : ixD (mD (.layer n)) (.int (-1)) = some (.fz (.int n)) := rfl
    walk_at "go"
    · intro q; cases q
    intro _
    walk_at "go"
    refine gs_if (b := false) (ev_qand (a := false) (b := false) (by walk_at "ev") fun z => by cases z) (fun z => by cases z) fun _ => ?_
    walk_at "go"
    · intro _
      walk_at "go"
      show RV.fz (.bool (decide (1 ≤ n) && decide (n < nL))) = _
      rw [decide_eq_true h.1, decide_eq_true h.2]
      rfl
    · intro q; cases q
  | once n =>
    have e0 : ixD (mD (.once n)) (.int 0) = some (.fz (.str "once")) := ixt0
    have eb : eqD (.str "once") (.str "below") = some (.fz (.bool false)) := eqS_f (by decide +kernel) (by decide +kernel) (by decide +kernel)
    have i2 : inD (.str "once") (.tuple [.str "letter", .str "tap"]) = some (.fz (.bool false)) := in2 (by decide +kernel) (by decide +kernel) (by decide +kernel) (by decide +kernel)
    have i3 : inD (.str "once") (.tuple [.str "layer", .str "tap", .str "once"]) = some (.fz (.bool true)) := in3 (by decide +kernel) (by decide +kernel) (by decide +kernel) (by decide +kernel) (by decide +kernel)
    have e1 : ixD (mD (.once n)) (.int (-1)) = some (.fz (.int n)) := rfl
    walk_at "go"
    · intro q; cases q
    intro _
    walk_at "go"
    refine gs_if (b := false) (ev_qand (a := false) (b := false) (by walk_at "ev") fun z => by cases z) (fun z => by cases z) fun _ => ?_
    walk_at "go"
    · intro _
      walk_at "go"
      show RV.fz (.bool (decide (1 ≤ n) && decide (n < nL))) = _
      rw [decide_eq_true h.1, decide_eq_true h.2]
      rfl
    · intro q; cases q
  | tap c n =>
    have e0 : ixD (mD (.tap c n)) (.int 0) = some (.fz (.str "tap")) := ixt0
    have eb : eqD (.str "tap") (.str "below") = some (.fz (.bool false)) := eqS_f (by decide +kernel) (by decide +kernel) (by decide +kernel)
    have i2 : inD (.str "tap") (.tuple [.str "letter", .str "tap"]) = some (.fz (.bool true)) := in2 (by decide +kernel) (by decide +kernel) (by decide +kernel) (by decide +kernel)
    have i3 : inD (.str "tap") (.tuple [.str "layer", .str "tap", .str "once"]) = some (.fz (.bool true)) := in3 (by decide +kernel) (by decide +kernel) (by decide +kernel) (by decide +kernel) (by decide +kernel)
    have e1 : ixD (mD (.tap c n)) (.int 1) = some (.fz (.str (ltr c))) := ixt1
    have e2 : ixD (mD (.tap c n)) (.int (-1)) = some (.fz (.int n)) := rfl
    have el := is_letter_ok (show c < 26 from h.1)
    walk_at "go"
    · intro q; cases q
    intro _
    walk_at "go"
    · intro q; cases q
    intro _
    walk_at "go"
    · intro _
      walk_at "go"
      show RV.fz (.bool (decide (1 ≤ n) && decide (n < nL))) = _
      rw [decide_eq_true h.2.1, decide_eq_true h.2.2]
      rfl
    · intro q; cases q
theorem layer_ok (h : VB b) {i : Nat} (hi : i < b.ls.length) : F_check_layer [bD b, nd i] = .ok (.fz .none) := by
  have e0 := b_0 (b := b)
  have e1 := b_1 (b := b)
  have e2 : ixD (.tuple (b.ls.map lyD)) (nd i) = some (.fz (lyD b.ls[i])) := ixT (by rw [List.getElem?_map, List.getElem?_eq_getElem hi]; rfl)
  obtain ⟨v1, v2⟩ := h.vl i b.ls[i] (List.getElem?_eq_getElem hi)
  generalize b.ls[i] = l at e2 v1 v2
  have e3 : lenD [lyD l] = some (.fz (nd l.length)) := by show some (RV.fz (nd (l.map mD).length)) = _; rw [List.length_map]
  have e4 : neD (nd l.length) (.int b.n) = some (.fz (.bool false)) := by rw [neD_int, decide_eq_true v1]; rfl
  have e5 : lenD [.tuple (b.ls.map lyD)] = some (.fz (nd b.ls.length)) := by rw [lenD_tup, List.length_map]
  refine go_val (ρ := [some (.fz (bD b)), some (.fz (nd i)), none, none, none]) rfl ?_
  unfold g_check_layer
  walk_at "go"
  · intro q; cases q
  intro _
  walk_at "go"
  refine go_for (fun _ ρ => ∃ t3 t4 : Option PV, ρ = [some (.fz (bD b)), some (.fz (nd i)), some (.fz (lyD l)), t3, t4]) (ev_ienum (es := l.map mD) (by walk_at "ev") rfl rfl) ⟨none, none, rfl⟩ ?_ (fun _ _ => rfl)
  rintro j d ρ hj ⟨t3, t4, rfl⟩
  rw [enumFrom_get, List.getElem?_map] at hj
  cases q : l[j]? with
  | none => rw [q] at hj; cases hj
  | some m =>
    rw [q] at hj
    cases hj
    have em := may_mean_ok (v2 m (List.mem_of_getElem? q))
    refine ⟨_, rfl, ?_⟩
    refine go_if (b := false) (ev_qnot (a := true) (by walk_at "ev")) (fun z => by cases z) fun _ => go_next ⟨_, _, rfl⟩
theorem rises_ok {s : List Nat} (h2 : 2 ≤ s.length) (hp : s.Pairwise (· < ·)) (hlen5 : s.length ≤ 5) : F_rises [.tuple (nds s)] = .ok (.fz (.bool true)) := by
  have sl1 : HT.sIx s.length 0 (some 1) = 1 := by have := HT.sIx_nat s.length 0 1; rw [show ((1 : Nat) : Int) = 1 from rfl] at this; omega
  have esl : slD (.tuple (nds s)) (some 1) none = some (.fz (.tuple (nds (s.drop 1)))) := by
    show (if wholeCut (nds s).length (some 1) none = true then none else some (RV.fz (.tuple (cutD (nds s) (some 1) none)))) = _
    have w : wholeCut (nds s).length (some 1) none = false := by
      unfold wholeCut
      rw [nds_len, sl1]
      exact decide_eq_false fun z => by cases z.1
    rw [w, if_neg Bool.false_ne_true]
    unfold cutD
    rw [nds_len, sl1, HT.sIx_none]
    congr 3
    unfold nds
    rw [← List.map_drop, List.take_of_length_le (by rw [List.length_map, List.length_drop]; omega)]
  obtain ⟨ys, c1, c2, c3⟩ := comp_map (gt := gT 2 (gsC (gN 0) (gsC (gN 1) gsN))) (ft := qTrue) (fe := pOp ltD (pVar 0) (pVar 1)) (ds := zipD (nds s) (nds (s.drop 1))) (ρ := [none, none]) (fun ρ => ∃ o p, ρ = [o, p]) (fun _ x => x = .bool true) ⟨none, none, rfl⟩ (by rw [zipD_len, nds_len]; omega) (by
    rintro j d hj ρ ⟨o, p, rfl⟩
    rw [zipD_get] at hj
    cases q1 : (nds s)[j]? with
    | none => rw [q1] at hj; cases hj
    | some x =>
      cases q2 : (nds (s.drop 1))[j]? with
      | none => rw [q1, q2] at hj; cases hj
      | some y =>
        rw [q1, q2] at hj
        cases hj
        obtain ⟨x, hx, rfl⟩ := nds_get q1
        obtain ⟨y, hy, rfl⟩ := nds_get q2
        rw [List.getElem?_drop] at hy
        have lt : x < y := by
          obtain ⟨a1, a2⟩ := List.getElem?_eq_some_iff.mp hx
          obtain ⟨b1, b2⟩ := List.getElem?_eq_some_iff.mp hy
          have := List.pairwise_iff_getElem.mp hp j (1 + j) a1 b1 (by omega)
          rw [a2, b2] at this
          exact this
        have el : ltD (nd x) (nd y) = some (.fz (.bool true)) := by rw [tr_ltt]; exact go_t (decide_eq_true (by omega))
        exact ⟨_, _, ct_t rfl rfl (by walk_at "ev") rfl rfl, ⟨_, _, rfl⟩, rfl⟩)
  have a1 := all_true c3
  refine go_val (ρ := [some (.fz (.tuple (nds s)))]) rfl ?_
  unfold g_rises
  exact go_ret (ev_cb (ev_cons (ev_comp (by walk_at "ev") rfl c1) ev_nil) rfl a1) rfl rfl
theorem chord_set_ok (h : VB b) {c : List Nat × Nat} (hc : VC (b.ls.headD []) c) : F_is_chord_set [bD b, .tuple (nds c.1)] = .ok (.fz (.bool true)) := by
  obtain ⟨h2, hp, hk, _⟩ := hc
  obtain ⟨s, l⟩ := c
  dsimp only at h2 hp hk ⊢
  obtain ⟨l0, r, hls⟩ : ∃ l0 r, b.ls = l0 :: r := by
    cases q : b.ls with
    | nil => have := h.l1; rw [q] at this; cases this
    | cons l0 r => exact ⟨l0, r, rfl⟩
  rw [hls, List.headD_cons] at hk
  have v0 := (h.vl 0 l0 (by rw [hls]; rfl)).1
  have hkl : ∀ k ∈ s, k < l0.length := fun k hm => by
    have := hk k hm
    unfold okK at this
    cases q : l0[k]? with
    | none => rw [q] at this; cases this
    | some m => exact (List.getElem?_eq_some_iff.mp q).1
  have hlen5 : s.length ≤ 5 := by
    have h5 := h.n5
    have := inc_len hp hkl
    omega
  have e0 := b_0 (b := b)
  have e1 := b_1 (b := b)
  have e2 : ixD (.tuple (b.ls.map lyD)) (.int 0) = some (.fz (lyD l0)) := by rw [hls]; exact ixt0
  have elen : lenD [.tuple (nds s)] = some (.fz (nd s.length)) := by rw [lenD_tup, nds_len]
  have er := rises_ok h2 hp hlen5
  obtain ⟨zs, d1, d2, d3⟩ := comp_map (gt := gN 0) (ft := qTrue) (fe := pAnd (pChain leD ltD (pC (.int 0)) (pVar 0) (pOp ixD (pVar 1) (pC (.int 0)))) (pOp eqD (pOp ixD (pOp ixD (pOp ixD (pOp ixD (pVar 1) (pC (.int 1))) (pC (.int 0))) (pVar 0)) (pC (.int 0))) (pC (.str "letter")))) (ds := nds s) (ρ := [none, some (.fz (bD b))])
    (fun ρ => ∃ o, ρ = [o, some (.fz (bD b))]) (fun _ x => x = .bool true) ⟨none, rfl⟩ (by rw [nds_len]; omega) (by
    rintro j d hj ρ ⟨o, rfl⟩
    obtain ⟨k, hkk, rfl⟩ := nds_get hj
    have hkm := List.mem_of_getElem? hkk
    have hl := hkl k hkm
    have e3 : ixD (lyD l0) (nd k) = some (.fz (mD l0[k])) := ixT (by rw [List.getElem?_map, List.getElem?_eq_getElem hl]; rfl)
    have e4 := wd_at l0[k]
    have e5 : eqD (.str (wd l0[k])) (.str "letter") = some (.fz (.bool true)) := by
      rw [wd_letter]
      have := hk k hkm
      unfold okK at this
      rw [List.getElem?_eq_getElem hl] at this
      exact go_t this
    have e6 : leD (.int 0) (nd k) = some (.fz (.bool true)) := by rw [tr_le]; exact go_t (decide_eq_true (by omega))
    have e7 : ltD (nd k) (.int b.n) = some (.fz (.bool true)) := by rw [tr_ltt]; exact go_t (decide_eq_true (by omega))
    exact ⟨_, _, ct_t rfl rfl (by walk_at "ev") rfl rfl, ⟨_, rfl⟩, rfl⟩)
  have a2 := all_true d3
  refine go_val (ρ := [some (.fz (bD b)), some (.fz (.tuple (nds s)))]) rfl ?_
  unfold g_is_chord_set
  refine gs_if (b := decide (((s.length : Nat) : Int) < 2) || !true) (by walk_at "ev") (fun q => ?_) (fun q => gs_next ?_)
  · rw [decide_eq_false (by omega)] at q
    cases q
  · exact go_ret (ev_cb (ev_cons (ev_comp (by walk_at "ev") rfl d1) ev_nil) rfl a2) rfl rfl
theorem chord_ok (h : VB b) {p : Nat} (hp : p < b.cs.length) : F_check_chord [bD b, nd p] = .ok (.fz .none) := by
  have e2 := b_2 (b := b)
  have e3 : ixD (.tuple (b.cs.map chD)) (nd p) = some (.fz (chD b.cs[p])) := ixT (by rw [List.getElem?_map, List.getElem?_eq_getElem hp]; rfl)
  have vc := h.vc b.cs[p] (List.getElem_mem hp)
  have e4 : ixD (chD b.cs[p]) (.int 0) = some (.fz (.tuple (nds b.cs[p].1))) := ixt0
  have e5 : ixD (chD b.cs[p]) (.int 1) = some (.fz (.str (ltr b.cs[p].2))) := ixt1
  have el := is_letter_ok vc.2.2.2
  have es := chord_set_ok h vc
  have esl : slD (.tuple (b.cs.map chD)) none (some (p : Int)) = some (.fz (.tuple ((b.cs.take p).map chD))) := by
    have s1 : HT.sIx b.cs.length b.cs.length (some (p : Int)) = p := by rw [HT.sIx_nat]; omega
    show (if wholeCut (b.cs.map chD).length none (some (p : Int)) = true then none else some (RV.fz (.tuple (cutD (b.cs.map chD) none (some (p : Int)))))) = _
    have w : wholeCut (b.cs.map chD).length none (some (p : Int)) = false := by
      unfold wholeCut
      rw [List.length_map, s1]
      exact decide_eq_false fun z => by have := z.2; omega
    rw [w, if_neg Bool.false_ne_true]
    unfold cutD
    rw [List.length_map, s1, HT.sIx_none, List.drop_zero, List.map_take]
    rfl
  have c4 := h.c4
  have cmp := sets_comp (b.cs.take p) (by rw [List.length_take]; omega) (pOp ixD (pVar 0) (pC (.int 0))) [] rfl fun c => ev_op (rv := .fz (.tuple (nds c.1))) (ev_var rfl) ev_c rfl rfl ixt0
  have ein : inD (.tuple (nds b.cs[p].1)) (.list (tps ((b.cs.take p).map (·.1)))) = some (.fz (.bool false)) := by
    rw [in_tps]
    refine go_t (decide_eq_false fun z => ?_)
    obtain ⟨c, hc, e⟩ := List.mem_map.mp z
    obtain ⟨i, hi, e2⟩ := List.mem_iff_getElem.mp hc
    rw [List.length_take] at hi
    rw [List.getElem_take] at e2
    have := List.pairwise_iff_getElem.mp h.cu i p (by omega) hp (by omega)
    rw [e2] at this
    exact this e
  refine go_val (ρ := [some (.fz (bD b)), some (.fz (nd p)), none]) rfl ?_
  unfold g_check_chord
  generalize b.cs[p] = c at *
  walk_at "go"
  · intro q; cases q
  intro _
  walk_at "go"
  refine go_if (b := false) (ev_bool (ev_op (by walk_at "ev") (ev_comp (by walk_at "ev") rfl cmp) rfl rfl ein) rfl) (fun z => by cases z) fun _ => go_next rfl
theorem checked_ok (h : VB b) : F_checked [bD b] = .ok (.fz (bD b)) := by
  have e0 := numbers_ok h
  have e1 := b_1 (b := b)
  have e2 := b_2 (b := b)
  have l3 := h.l3
  have c4 := h.c4
  have ll : lenD [.tuple (b.ls.map lyD)] = some (.fz (nd b.ls.length)) := by rw [lenD_tup, List.length_map]
  have lc : lenD [.tuple (b.cs.map chD)] = some (.fz (nd b.cs.length)) := by rw [lenD_tup, List.length_map]
  have r1 := rng1_nd (n := b.ls.length) (by omega)
  have r2 := rng1_nd (n := b.cs.length) (by omega)
  refine go_val (ρ := [some (.fz (bD b)), none, none]) rfl ?_
  unfold g_checked
  walk_at "go"
  with_reducible apply gs_for (fun _ ρ => ∃ t : Option PV, ρ = [some (.fz (bD b)), t, none])
  · walk_at "ev"
  · exact ⟨none, rfl⟩
  · rintro i d ρ hi ⟨t, rfl⟩
    obtain ⟨k, hk, rfl⟩ := nds_get hi
    obtain ⟨rfl, hkl⟩ := range_at hk
    have el := layer_ok h hkl
    exact ⟨_, rfl, go_drop (by walk_at "ev") ⟨_, rfl⟩⟩
  rintro ρ ⟨t, rfl⟩
  with_reducible apply gs_for (fun _ ρ => ∃ t2 : Option PV, ρ = [some (.fz (bD b)), t, t2])
  · walk_at "ev"
  · exact ⟨none, rfl⟩
  · rintro i d ρ hi ⟨t2, rfl⟩
    obtain ⟨k, hk, rfl⟩ := nds_get hi
    obtain ⟨rfl, hkl⟩ := range_at hk
    have el := chord_ok h hkl
    exact ⟨_, rfl, go_drop (by walk_at "ev") ⟨_, rfl⟩⟩
  rintro ρ ⟨t2, rfl⟩
  walk_at "go"
  rfl
end
/-! ### like itself -/
noncomputable def Fl : Nat → FN
  | 0 => badF
  | n + 1 => runF 2 (g__law_like (Fl n))
inductive Lk : Nat → D → Prop
  | str {n : Nat} {x : Str} : PyData.strOk x = true → Lk (n + 1) (.str x)
  | int {n : Nat} {i : Int} : Lk (n + 1) (.int i)
  | tup {n : Nat} {ds : List D} : ds.length ≤ 1000 → (∀ d ∈ ds, Lk n d) → Lk (n + 1) (.tuple ds)
theorem whole_ok (i : Int) : F__law_whole [.int i] = .ok (.fz (.bool true)) := by
  refine go_val (ρ := [some (.fz (.int i))]) rfl ?_
  unfold g__law_whole
  walk_at "go"
  rfl
theorem like_ok : ∀ (n : Nat) (d : D), Lk n d → Fl n [d, d] = .ok (.fz (.bool true))
  | 0, d, h => by cases h
  | n + 1, d, h => by
    refine go_val (ρ := [some (.fz d), some (.fz d)]) rfl ?_
    unfold g__law_like
    cases h with
    | @str _ x hx =>
      have eq := eqS_t hx
      walk_at "go"
      · intro q; cases q
      intro _
      walk_at "go"
      · intro _
        walk_at "go"
        rfl
      · intro q; cases q
    | @int _ i =>
      have ew := whole_ok i
      have eq : eqD (.int i) (.int i) = some (.fz (.bool true)) := by rw [eqD_int]; exact go_t (decide_eq_true rfl)
      walk_at "go"
      · intro q; cases q
      intro _
      walk_at "go"
      · intro q; cases q
      intro _
      walk_at "go"
      rfl
    | @tup _ ds hl hd =>
      have en : neD (nd ds.length) (nd ds.length) = some (.fz (.bool false)) := by rw [neD_nd]; exact go_t (by rw [decide_eq_true rfl]; rfl)
      obtain ⟨ys, c1, c2, c3⟩ := comp_map (gt := gT 2 (gsC (gN 0) (gsC (gN 1) gsN))) (ft := qTrue) (fe := pCal (Fl n) 2 (aCons (pVar 0) (aCons (pVar 1) aNil))) (ds := zipD ds ds) (ρ := [none, none]) (fun ρ => ∃ o p, ρ = [o, p]) (fun _ x => x = .bool true) ⟨none, none, rfl⟩ (by rw [zipD_len]; omega) (by
        rintro j d hj ρ ⟨o, p, rfl⟩
        rw [zipD_get] at hj
        cases q1 : ds[j]? with
        | none => rw [q1] at hj; cases hj
        | some x =>
          rw [q1] at hj
          cases hj
          have ih := like_ok n x (hd x (List.mem_of_getElem? q1))
          exact ⟨_, _, ct_t rfl rfl (by walk_at "ev") rfl rfl, ⟨_, _, rfl⟩, rfl⟩)
      have a1 := all_true c3
      walk_at "go"
      · intro _
        walk_at "go"
        · intro q; cases q
        intro _
        refine gs_next ?_
        exact gs_ret (ev_cb (ev_cons (ev_comp (by walk_at "ev") rfl c1) ev_nil) rfl a1) rfl rfl
      · intro q; cases q
theorem ltr_ok (c : Nat) (h : c < 26) : PyData.strOk (ltr c) = true := by
  have : ∀ c, c < 26 → PyData.strOk (ltr c) = true := by decide +kernel
  exact this c h
theorem lk_m {L nL : Int} {m : Mn} (n : Nat) (h : VM L nL m) : Lk (n + 2) (mD m) := by
  cases m with
  | letter c =>
      refine .tup (by show 2 ≤ 1000; decide) fun d hd => ?_
      simp only [List.mem_cons, List.not_mem_nil, or_false] at hd
      rcases hd with rfl | rfl
      · exact .str (by decide +kernel)
      · exact .str (ltr_ok c h)
  | layer k =>
      refine .tup (by show 2 ≤ 1000; decide) fun d hd => ?_
      simp only [List.mem_cons, List.not_mem_nil, or_false] at hd
      rcases hd with rfl | rfl
      · exact .str (by decide +kernel)
      · exact .int
  | once k =>
      refine .tup (by show 2 ≤ 1000; decide) fun d hd => ?_
      simp only [List.mem_cons, List.not_mem_nil, or_false] at hd
      rcases hd with rfl | rfl
      · exact .str (by decide +kernel)
      · exact .int
  | tap c k =>
      refine .tup (by show 3 ≤ 1000; decide) fun d hd => ?_
      simp only [List.mem_cons, List.not_mem_nil, or_false] at hd
      rcases hd with rfl | rfl | rfl
      · exact .str (by decide +kernel)
      · exact .str (ltr_ok c h.1)
      · exact .int
  | none =>
      refine .tup (by show 1 ≤ 1000; decide) fun d hd => ?_
      simp only [List.mem_cons, List.not_mem_nil, or_false] at hd
      subst hd
      exact .str (by decide +kernel)
  | below =>
      refine .tup (by show 1 ≤ 1000; decide) fun d hd => ?_
      simp only [List.mem_cons, List.not_mem_nil, or_false] at hd
      subst hd
      exact .str (by decide +kernel)
theorem lk_nds {n : Nat} {s : List Nat} (h : s.length ≤ 1000) : Lk (n + 2) (.tuple (nds s)) := .tup (by rw [nds_len]; exact h) fun d hd => by
  obtain ⟨k, _, rfl⟩ := List.mem_map.mp hd
  exact .int
theorem vc_len {l0 : List Mn} {c : List Nat × Nat} (h : VC l0 c) : c.1.length ≤ l0.length := by
  refine inc_len h.2.1 fun k hm => ?_
  have := h.2.2.1 k hm
  unfold okK at this
  cases q : l0[k]? with
  | none => rw [q] at this; cases this
  | some m => exact (List.getElem?_eq_some_iff.mp q).1
theorem lk_bed {b : Bd} (h : VB b) : Lk 6 (bD b) := by
  refine .tup (by show 4 ≤ 1000; decide) fun d hd => ?_
  have n5 := h.n5
  have l3 := h.l3
  have c4 := h.c4
  simp only [List.mem_cons, List.not_mem_nil, or_false] at hd
  rcases hd with rfl | rfl | rfl | rfl
  · exact .int
  · refine .tup (by rw [List.length_map]; omega) fun d hd => ?_
    obtain ⟨l, hl, rfl⟩ := List.mem_map.mp hd
    obtain ⟨i, hi⟩ := List.mem_iff_getElem?.mp hl
    obtain ⟨v1, v2⟩ := h.vl i l hi
    refine .tup (by rw [List.length_map]; omega) fun d hd => ?_
    obtain ⟨m, hm, rfl⟩ := List.mem_map.mp hd
    exact lk_m 1 (v2 m hm)
  · refine .tup (by rw [List.length_map]; omega) fun d hd => ?_
    obtain ⟨c, hc, rfl⟩ := List.mem_map.mp hd
    have v := h.vc c hc
    refine .tup (by show 2 ≤ 1000; decide) fun d hd => ?_
    simp only [List.mem_cons, List.not_mem_nil, or_false] at hd
    rcases hd with rfl | rfl
    · refine lk_nds ?_
      have := vc_len v
      have : (b.ls.headD []).length ≤ 5 := by
        cases q : b.ls with
        | nil => show 0 ≤ 5; decide
        | cons l0 r =>
          have := (h.vl 0 l0 (by rw [q]; rfl)).1
          show l0.length ≤ 5
          omega
      omega
    · exact .str (ltr_ok _ v.2.2.2)
  · exact .int
/-! ### words and figures -/
noncomputable def dgt (k : Nat) : Str := ⟨#[48 + k]⟩
theorem dgt_of : ∀ k : Nat, k < 10 → PySem.Str.ofString (toString (k : Int)) = dgt k := by decide +kernel
theorem strS_dgt {i : Int} (h0 : 0 ≤ i) (h9 : i ≤ 9) : strS [.int i] = some (.fz (.str (dgt i.toNat))) := by
  show (if i.natAbs < 10 ^ 30 then some (RV.fz (.str (PySem.Str.ofString (toString i)))) else none) = _
  have e : i = ((i.toNat : Nat) : Int) := by omega
  rw [if_pos (by omega)]
  conv => lhs; rw [e]
  rw [dgt_of _ (by omega)]
noncomputable def wS : Mn → Str
  | .letter c => ltr c
  | .layer n => ⟨#[62, 48 + n.toNat]⟩
  | .tap c n => ⟨#[97 + c, 62, 48 + n.toNat]⟩
  | .once n => ⟨#[126, 48 + n.toNat]⟩
  | .none => ⟨#[46]⟩
  | .below => ⟨#[95]⟩
theorem s_gt : (">" : Str) = ⟨#[62]⟩ := by decide +kernel
theorem s_ti : ("~" : Str) = ⟨#[126]⟩ := by decide +kernel
theorem s_do : ("." : Str) = ⟨#[46]⟩ := by decide +kernel
theorem s_un : ("_" : Str) = ⟨#[95]⟩ := by decide +kernel
theorem s_em : ("" : Str) = ⟨#[]⟩ := by decide +kernel
theorem addS_ok {a b c : Str} (e : a ++ b = c) (h : a.length + b.length ≤ 1000) : addS (.str a) (.str b) = some (.fz (.str c)) := by
  show (if a.length + b.length ≤ 1000000 then some (RV.fz (.str (a ++ b))) else none) = _
  rw [if_pos (by omega), e]
theorem eqf {a b : Str} (ha : PyData.strOk a = true) (hb : PyData.strOk b = true) (h : (a == b) = false) : eqD (.str a) (.str b) = some (.fz (.bool false)) := eqS_f ha hb h
theorem neS_f {a : Str} (ha : PyData.strOk a = true) : neD (.str a) (.str a) = some (.fz (.bool false)) := by
  unfold neD
  rw [show okD (.str a) = true by unfold okD; rw [show PyData.canLay0 (.str a) = true from ha]; rfl, show PyData.canLay0 (.str a) = true from ha, Bool.and_self, if_pos rfl, show PyData.eqv (.str a) (.str a) = (a == a) from rfl, beq_self_eq_true]
  rfl
theorem neS_t {a b : Str} (ha : PyData.strOk a = true) (hb : PyData.strOk b = true) (h : (a == b) = false) : neD (.str a) (.str b) = some (.fz (.bool true)) := by
  unfold neD
  rw [show okD (.str a) = true by unfold okD; rw [show PyData.canLay0 (.str a) = true from ha]; rfl, show PyData.canLay0 (.str b) = true from hb, Bool.and_self, if_pos rfl, show PyData.eqv (.str a) (.str b) = (a == b) from rfl, h]
  rfl
theorem shown_m {L nL : Int} {m : Mn} (h : VM L nL m) (h3 : nL ≤ 3) : F_shown_meaning [mD m] = .ok (.fz (.str (wS m))) := by
  refine go_val (ρ := [some (.fz (mD m)), none, none]) rfl ?_
  unfold g_shown_meaning
  cases m with
  | none =>
    have e0 : ixD (mD .none) (.int 0) = some (.fz (.str "none")) := ixt0
    have e1 : eqD (.str "none") (.str "none") = some (.fz (.bool true)) := eqS_t (by decide +kernel)
    walk_at "go"
    · intro _
      walk_at "go"
      show RV.fz (.str ".") = _
      rw [s_do]; rfl
    · intro q; cases q
  | below =>
    have e0 : ixD (mD .below) (.int 0) = some (.fz (.str "below")) := ixt0
    have e1 : eqD (.str "below") (.str "none") = some (.fz (.bool false)) := eqf (by decide +kernel) (by decide +kernel) (by decide +kernel)
    have e2 : eqD (.str "below") (.str "below") = some (.fz (.bool true)) := eqS_t (by decide +kernel)
    walk_at "go"
    · intro q; cases q
    intro _
    walk_at "go"
    · intro _
      walk_at "go"
      show RV.fz (.str "_") = _
      rw [s_un]; rfl
    · intro q; cases q
  | letter c =>
    have e0 : ixD (mD (.letter c)) (.int 0) = some (.fz (.str "letter")) := ixt0
    have e4 : ixD (mD (.letter c)) (.int 1) = some (.fz (.str (ltr c))) := ixt1
    have e1 : eqD (.str "letter") (.str "none") = some (.fz (.bool false)) := eqf (by decide +kernel) (by decide +kernel) (by decide +kernel)
    have e2 : eqD (.str "letter") (.str "below") = some (.fz (.bool false)) := eqf (by decide +kernel) (by decide +kernel) (by decide +kernel)
    have e3 : eqD (.str "letter") (.str "letter") = some (.fz (.bool true)) := eqS_t (by decide +kernel)
    walk_at "go"
    · intro q; cases q
    intro _
    walk_at "go"
    · intro q; cases q
    intro _
    walk_at "go"
    · intro _
      walk_at "go"
      rfl
    · intro q; cases q
  | once n =>
    have hn : 1 ≤ n ∧ n < nL := h
    have e0 : ixD (mD (.once n)) (.int 0) = some (.fz (.str "once")) := ixt0
    have e4 : ixD (mD (.once n)) (.int (-1)) = some (.fz (.int n)) := rfl
    have e1 : eqD (.str "once") (.str "none") = some (.fz (.bool false)) := eqf (by decide +kernel) (by decide +kernel) (by decide +kernel)
    have e2 : eqD (.str "once") (.str "below") = some (.fz (.bool false)) := eqf (by decide +kernel) (by decide +kernel) (by decide +kernel)
    have e3 : eqD (.str "once") (.str "letter") = some (.fz (.bool false)) := eqf (by decide +kernel) (by decide +kernel) (by decide +kernel)
    have e5 : eqD (.str "once") (.str "once") = some (.fz (.bool true)) := eqS_t (by decide +kernel)
    have e6 := strS_dgt (i := n) (by omega) (by omega)
    have e7 : addS (.str "~") (.str (dgt n.toNat)) = some (.fz (.str (wS (.once n)))) := addS_ok (by rw [s_ti]; rfl) (by rw [s_ti]; show 1 + 1 ≤ 1000; decide)
    walk_at "go"
    · intro q; cases q
    intro _
    walk_at "go"
    · intro q; cases q
    intro _
    walk_at "go"
    · intro q; cases q
    intro _
    walk_at "go"
    · intro _
      walk_at "go"
      rfl
    · intro q; cases q
  | layer n =>
    have hn : 1 ≤ n ∧ n < nL := h
    have e0 : ixD (mD (.layer n)) (.int 0) = some (.fz (.str "layer")) := ixt0
    have e4 : ixD (mD (.layer n)) (.int (-1)) = some (.fz (.int n)) := rfl
    have e1 : eqD (.str "layer") (.str "none") = some (.fz (.bool false)) := eqf (by decide +kernel) (by decide +kernel) (by decide +kernel)
    have e2 : eqD (.str "layer") (.str "below") = some (.fz (.bool false)) := eqf (by decide +kernel) (by decide +kernel) (by decide +kernel)
    have e3 : eqD (.str "layer") (.str "letter") = some (.fz (.bool false)) := eqf (by decide +kernel) (by decide +kernel) (by decide +kernel)
    have e5 : eqD (.str "layer") (.str "once") = some (.fz (.bool false)) := eqf (by decide +kernel) (by decide +kernel) (by decide +kernel)
    have e8 : eqD (.str "layer") (.str "layer") = some (.fz (.bool true)) := eqS_t (by decide +kernel)
    have e6 := strS_dgt (i := n) (by omega) (by omega)
    have e7 : addS (.str ">") (.str (dgt n.toNat)) = some (.fz (.str (wS (.layer n)))) := addS_ok (by rw [s_gt]; rfl) (by rw [s_gt]; show 1 + 1 ≤ 1000; decide)
    walk_at "go"
    · intro q; cases q
    intro _
    walk_at "go"
    · intro q; cases q
    intro _
    walk_at "go"
    · intro q; cases q
    intro _
    walk_at "go"
    · intro q; cases q
    intro _
    walk_at "go"
    · intro _
      walk_at "go"
      rfl
    · intro q; cases q
  | tap c n =>
    have hn : 1 ≤ n ∧ n < nL := h.2
    have e0 : ixD (mD (.tap c n)) (.int 0) = some (.fz (.str "tap")) := ixt0
    have e9 : ixD (mD (.tap c n)) (.int 1) = some (.fz (.str (ltr c))) := ixt1
    have e4 : ixD (mD (.tap c n)) (.int (-1)) = some (.fz (.int n)) := rfl
    have e1 : eqD (.str "tap") (.str "none") = some (.fz (.bool false)) := eqf (by decide +kernel) (by decide +kernel) (by decide +kernel)
    have e2 : eqD (.str "tap") (.str "below") = some (.fz (.bool false)) := eqf (by decide +kernel) (by decide +kernel) (by decide +kernel)
    have e3 : eqD (.str "tap") (.str "letter") = some (.fz (.bool false)) := eqf (by decide +kernel) (by decide +kernel) (by decide +kernel)
    have e5 : eqD (.str "tap") (.str "once") = some (.fz (.bool false)) := eqf (by decide +kernel) (by decide +kernel) (by decide +kernel)
    have e8 : eqD (.str "tap") (.str "layer") = some (.fz (.bool false)) := eqf (by decide +kernel) (by decide +kernel) (by decide +kernel)
    have e6 := strS_dgt (i := n) (by omega) (by omega)
    have e10 : addS (.str (ltr c)) (.str ">") = some (.fz (.str ⟨#[97 + c, 62]⟩)) := addS_ok (by rw [s_gt]; rfl) (by rw [s_gt]; show 1 + 1 ≤ 1000; decide)
    have e7 : addS (.str ⟨#[97 + c, 62]⟩) (.str (dgt n.toNat)) = some (.fz (.str (wS (.tap c n)))) := addS_ok rfl (by show 2 + 1 ≤ 1000; decide)
    walk_at "go"
    · intro q; cases q
    intro _
    walk_at "go"
    · intro q; cases q
    intro _
    walk_at "go"
    · intro q; cases q
    intro _
    walk_at "go"
    · intro q; cases q
    intro _
    walk_at "go"
    · intro q; cases q
    intro _
    walk_at "go"
    rfl
theorem pDl_ok {T : List (PyData × PyData)} {fb : FE} {ρ ρ1 : PEnv} {pv : PV} {d : D} {rv : RV} (h : fb ρ = .ok (pv, ρ1)) (hd : rdD ρ1 pv = some d) (hf : dlS T d = some rv) : pDl T fb ρ = .ok (rv.pv, ρ1) := by
  unfold pDl
  rw [h, Res.bind_ok, hd, ofO_some, Res.bind_ok, hf, ofO_some, Res.bind_ok]
theorem ev_ms {f : Str → List D → Option RV} {fo : FE} {fa : FA} {ρ ρ1 ρ2 : PEnv} {pv : PV} {z : Str} {ps : List PV} {ds : List D} {rv : RV} (ho : fo ρ = .ok (pv, ρ1)) (hz : asStr pv = some z) (ha : fa ρ1 = .ok (ps, ρ2)) (hd : rdDs ρ2 ps = some ds) (hf : f z ds = some rv) : pMs f fo fa ρ = .ok (rv.pv, ρ2) := by
  unfold pMs
  rw [ho, Res.bind_ok]
  dsimp only
  rw [hz, ofO_some, Res.bind_ok, ha, Res.bind_ok, hd, ofO_some, Res.bind_ok, hf, ofO_some, Res.bind_ok]
theorem ev_f2 {a b : Str} {fe ff : FE} {ρ : PEnv} {pa pb : PV} {i j : Int} (he : fe ρ = .ok (pa, ρ)) (hi : rdD ρ pa = some (.int i)) (hf : ff ρ = .ok (pb, ρ)) (hj : rdD ρ pb = some (.int j)) (h1 : i.natAbs < 10 ^ 30 ∧ (PySem.Str.empty ++ a ++ PySem.Str.ofString (toString i) ++ b).length ≤ 1000000) (h2 : j.natAbs < 10 ^ 30 ∧ (f2 a b i j).length ≤ 1000000) : pF2 a b fe ff ρ = .ok (.fz (.str (f2 a b i j)), ρ) := by
  unfold pF2
  rw [he, Res.bind_ok]
  dsimp only
  rw [hi, ofO_some, Res.bind_ok, asI_int, ofO_some, Res.bind_ok, if_pos h1, hf, Res.bind_ok]
  dsimp only
  rw [hj, ofO_some, Res.bind_ok, asI_int, ofO_some, Res.bind_ok, if_pos h2]
noncomputable def dlT : List (PyData × PyData) := [(PyData.str "layer", PyData.str ">"), (PyData.str "once", PyData.str "~"), (PyData.str "none", PyData.str "."), (PyData.str "below", PyData.str "_")]
/-- what stands behind the word in a meaning -/
noncomputable def nS : Mn → List Int
  | .layer n => [n]
  | .once n => [n]
  | _ => []
theorem law_word_tail {m : Mn} {w z : Str} (hm : m = .none ∨ m = .below ∨ (∃ n, m = .layer n ∧ 0 ≤ n ∧ n ≤ 9) ∨ ∃ n, m = .once n ∧ 0 ≤ n ∧ n ≤ 9) (hw : ixD (mD m) (.int 0) = some (.fz (.str w))) (hd : dlS dlT (.str w) = some (.fz (.str z)))
    (hs : slD (mD m) (some 1) none = some (.fz (.tuple ((nS m).map .int)))) (e : z ++ PySem.Str.join ⟨#[]⟩ ((nS m).map fun n => dgt n.toNat) = wS m) (hl : z.length ≤ 10) :
    pOp addS (pDl dlT (pOp ixD (pVar 0) (pC (.int 0)))) (pMs joinS (pC (.str "")) (aCons (pComp 1 [] (iSeq (pSl slD (pVar 0) (oSome (pC (.int 1))) oNone)) (gN 0) qTrue (pCB strS (aCons (pVar 0) aNil))) aNil)) [some (.fz (mD m))] = .ok (.fz (.str (wS m)), [some (.fz (mD m))]) := by
  have hn : ∀ n ∈ nS m, 0 ≤ n ∧ n ≤ 9 := by
    rcases hm with rfl | rfl | ⟨n, rfl, h⟩ | ⟨n, rfl, h⟩
    · intro n z; cases z
    · intro n z; cases z
    · intro k z; rw [List.mem_singleton.mp z]; exact h
    · intro k z; rw [List.mem_singleton.mp z]; exact h
  have hlen : (nS m).length ≤ 1 := by
    rcases hm with rfl | rfl | ⟨n, rfl, h⟩ | ⟨n, rfl, h⟩
    · exact Nat.zero_le _
    · exact Nat.zero_le _
    · exact Nat.le_refl 1
    · exact Nat.le_refl 1
  obtain ⟨xs, c1, c2, c3⟩ := comp_map (gt := gN 0) (ft := qTrue) (fe := pCB strS (aCons (pVar 0) aNil)) (ds := (nS m).map .int) (ρ := [none]) (fun ρ => ∃ o, ρ = [o]) (fun i x => ∃ n, (nS m)[i]? = some n ∧ x = .str (dgt n.toNat)) ⟨none, rfl⟩ (by rw [List.length_map]; omega) (by
    rintro j d hj ρ ⟨o, rfl⟩
    rw [List.getElem?_map] at hj
    cases q : (nS m)[j]? with
    | none => rw [q] at hj; cases hj
    | some n =>
      rw [q] at hj
      cases hj
      have hb := hn n (List.mem_of_getElem? q)
      have e1 := strS_dgt hb.1 hb.2
      exact ⟨_, _, ct_t rfl rfl (by walk_at "ev") rfl rfl, ⟨_, rfl⟩, n, rfl, rfl⟩)
  have ex : xs = ((nS m).map fun n => dgt n.toNat).map .str := by
    refine List.ext_getElem? fun i => ?_
    rw [List.map_map, List.getElem?_map]
    cases q : xs[i]? with
    | none =>
      have : (nS m).length ≤ i := by
        have := List.getElem?_eq_none_iff.mp q
        rw [c2, List.length_map] at this
        exact this
      rw [List.getElem?_eq_none this]; rfl
    | some x =>
      obtain ⟨n, h1, rfl⟩ := c3 i x q
      rw [h1]; rfl
  subst ex
  have jl : ∀ w ∈ (nS m).map (fun n => dgt n.toNat), w.length ≤ 1 := fun w hw => by obtain ⟨n, _, rfl⟩ := List.mem_map.mp hw; exact Nat.le_refl _
  have hj : joinS "" [.list (((nS m).map fun n => dgt n.toNat).map .str)] = some (.fz (.str (PySem.Str.join ⟨#[]⟩ ((nS m).map fun n => dgt n.toNat)))) := by
    show (match asSs (((nS m).map fun n => dgt n.toNat).map .str) with
      | some ts => if JoinOk "" ts = true then some (RV.fz (.str (Txt.join "" ts))) else none
      | none => none) = _
    rw [asSs_map]
    dsimp only
    have ok : JoinOk "" ((nS m).map fun n => dgt n.toNat) = true := by
      unfold JoinOk
      have := PySem.StrLaws.joinFits (sep := "") (texts := (nS m).map fun n => dgt n.toNat) (B := 1) jl (by rw [List.length_map, s_em]; show _ + _ * 0 ≤ _; omega)
      rw [this]; rfl
    rw [if_pos ok, show Txt.join "" ((nS m).map fun n => dgt n.toNat) = PySem.Str.join "" ((nS m).map fun n => dgt n.toNat) from PySem.StrLaws.glued_eq_join _ _, s_em]
  have la : (PySem.Str.join ⟨#[]⟩ ((nS m).map fun n => dgt n.toNat)).length ≤ 5 := by
    rcases hm with rfl | rfl | ⟨n, rfl, h⟩ | ⟨n, rfl, h⟩
    · exact Nat.zero_le _
    · exact Nat.zero_le _
    · show 1 ≤ 5; decide
    · show 1 ≤ 5; decide
  have ha : addS (.str z) (.str (PySem.Str.join ⟨#[]⟩ ((nS m).map fun n => dgt n.toNat))) = some (.fz (.str (wS m))) := addS_ok e (by omega)
  refine ev_op (rv := .fz (.str (wS m))) (pDl_ok (rv := .fz (.str z)) (by walk_at "ev") rfl hd) (ev_ms (rv := .fz (.str _)) ev_c rfl (ev_cons (ev_comp (ev_iseq (by walk_at "ev") rfl rfl) rfl c1) ev_nil) rfl hj) rfl rfl ha
theorem law_word_ok {L nL : Int} {m : Mn} (h : VM L nL m) (h3 : nL ≤ 3) : F__law_word [mD m] = .ok (.fz (.str (wS m))) := by
  refine go_val (ρ := [some (.fz (mD m))]) rfl ?_
  unfold g__law_word
  cases m with
  | letter c =>
    have e0 : ixD (mD (.letter c)) (.int 0) = some (.fz (.str "letter")) := ixt0
    have e4 : ixD (mD (.letter c)) (.int 1) = some (.fz (.str (ltr c))) := ixt1
    have e3 : eqD (.str "letter") (.str "letter") = some (.fz (.bool true)) := eqS_t (by decide +kernel)
    walk_at "go"
    · intro _
      walk_at "go"
      rfl
    · intro q; cases q
  | tap c n =>
    have hn : 1 ≤ n ∧ n < nL := h.2
    have e0 : ixD (mD (.tap c n)) (.int 0) = some (.fz (.str "tap")) := ixt0
    have e9 : ixD (mD (.tap c n)) (.int 1) = some (.fz (.str (ltr c))) := ixt1
    have e4 : ixD (mD (.tap c n)) (.int 2) = some (.fz (.int n)) := ixt2
    have e3 : eqD (.str "tap") (.str "letter") = some (.fz (.bool false)) := eqf (by decide +kernel) (by decide +kernel) (by decide +kernel)
    have e5 : eqD (.str "tap") (.str "tap") = some (.fz (.bool true)) := eqS_t (by decide +kernel)
    have e6 := strS_dgt (i := n) (by omega) (by omega)
    have e10 : addS (.str (ltr c)) (.str ">") = some (.fz (.str ⟨#[97 + c, 62]⟩)) := addS_ok (by rw [s_gt]; rfl) (by rw [s_gt]; show 1 + 1 ≤ 1000; decide)
    have e7 : addS (.str ⟨#[97 + c, 62]⟩) (.str (dgt n.toNat)) = some (.fz (.str (wS (.tap c n)))) := addS_ok rfl (by show 2 + 1 ≤ 1000; decide)
    walk_at "go"
    · intro q; cases q
    intro _
    walk_at "go"
    · intro _
      walk_at "go"
      rfl
    · intro q; cases q
  | none =>
    have e0 : ixD (mD .none) (.int 0) = some (.fz (.str "none")) := ixt0
    have e3 : eqD (.str "none") (.str "letter") = some (.fz (.bool false)) := eqf (by decide +kernel) (by decide +kernel) (by decide +kernel)
    have e5 : eqD (.str "none") (.str "tap") = some (.fz (.bool false)) := eqf (by decide +kernel) (by decide +kernel) (by decide +kernel)
    have t := law_word_tail (m := .none) (w := "none") (z := ⟨#[46]⟩) (.inl rfl) e0 (by rw [← s_do]; rfl) rfl rfl (by show 1 ≤ 10; decide)
    walk_at "go"
    · intro q; cases q
    intro _
    walk_at "go"
    · intro q; cases q
    intro _
    refine gs_next (go_ret t rfl rfl)
  | below =>
    have e0 : ixD (mD .below) (.int 0) = some (.fz (.str "below")) := ixt0
    have e3 : eqD (.str "below") (.str "letter") = some (.fz (.bool false)) := eqf (by decide +kernel) (by decide +kernel) (by decide +kernel)
    have e5 : eqD (.str "below") (.str "tap") = some (.fz (.bool false)) := eqf (by decide +kernel) (by decide +kernel) (by decide +kernel)
    have t := law_word_tail (m := .below) (w := "below") (z := ⟨#[95]⟩) (.inr (.inl rfl)) e0 (by rw [← s_un]; rfl) rfl rfl (by show 1 ≤ 10; decide)
    walk_at "go"
    · intro q; cases q
    intro _
    walk_at "go"
    · intro q; cases q
    intro _
    refine gs_next (go_ret t rfl rfl)
  | layer n =>
    have hn : 1 ≤ n ∧ n < nL := h
    have e0 : ixD (mD (.layer n)) (.int 0) = some (.fz (.str "layer")) := ixt0
    have e3 : eqD (.str "layer") (.str "letter") = some (.fz (.bool false)) := eqf (by decide +kernel) (by decide +kernel) (by decide +kernel)
    have e5 : eqD (.str "layer") (.str "tap") = some (.fz (.bool false)) := eqf (by decide +kernel) (by decide +kernel) (by decide +kernel)
    have t := law_word_tail (m := .layer n) (w := "layer") (z := ⟨#[62]⟩) (.inr (.inr (.inl ⟨n, rfl, by omega, by omega⟩))) e0 (by rw [← s_gt]; rfl) rfl rfl (by show 1 ≤ 10; decide)
    walk_at "go"
    · intro q; cases q
    intro _
    walk_at "go"
    · intro q; cases q
    intro _
    refine gs_next (go_ret t rfl rfl)
  | once n =>
    have hn : 1 ≤ n ∧ n < nL := h
    have e0 : ixD (mD (.once n)) (.int 0) = some (.fz (.str "once")) := ixt0
    have e3 : eqD (.str "once") (.str "letter") = some (.fz (.bool false)) := eqf (by decide +kernel) (by decide +kernel) (by decide +kernel)
    have e5 : eqD (.str "once") (.str "tap") = some (.fz (.bool false)) := eqf (by decide +kernel) (by decide +kernel) (by decide +kernel)
    have t := law_word_tail (m := .once n) (w := "once") (z := ⟨#[126]⟩) (.inr (.inr (.inr ⟨n, rfl, by omega, by omega⟩))) e0 (by rw [← s_ti]; rfl) rfl rfl (by show 1 ≤ 10; decide)
    walk_at "go"
    · intro q; cases q
    intro _
    walk_at "go"
    · intro q; cases q
    intro _
    refine gs_next (go_ret t rfl rfl)
/-! ### reading -/
theorem fig_in : ∀ k : Nat, k < 10 → decide (48 + k ∈ ("0123456789" : Str).cps.toList) = true := by decide +kernel
theorem int_dgt : ∀ k : Nat, k < 10 → PySem.intText? (dgt k) = some (k : Int) := by decide +kernel
theorem inS_dgt {k : Nat} (h : k < 10) : inS (.str (dgt k)) (.str "0123456789") = some (.fz (.bool true)) := by
  show some (RV.fz (.bool (!(Builtin.Str.occurrences ("0123456789" : Str) ⟨#[48 + k]⟩ 0 ("0123456789" : Str).length 1).isEmpty))) = _
  rw [PySem.StrLaws.found_one, fig_in k h]
theorem ev_signs {fe : FE} {ρ ρ1 : PEnv} {pv : PV} {z : Str} (h : fe ρ = .ok (pv, ρ1)) (hz : asStr pv = some z) : iSigns fe ρ = .ok (signsD z, ρ1) := by
  unfold iSigns
  rw [h, Res.bind_ok]
  dsimp only
  rw [hz, ofO_some, Res.bind_ok]
theorem number_ok {k : Nat} (h : k < 10) : F_read_number [.str (dgt k)] = .ok (.fz (nd k)) := by
  have e1 : lenS [.str (dgt k)] = some (.fz (.int 1)) := rfl
  obtain ⟨ys, c1, c2, c3⟩ := comp_map (gt := gN 0) (ft := qTrue) (fe := pOp inS (pVar 0) (pC (.str "0123456789"))) (ds := signsD (dgt k)) (ρ := [none]) (fun ρ => ∃ o, ρ = [o]) (fun _ x => x = .bool true) ⟨none, rfl⟩ (by show 1 ≤ 1000000; decide) (by
    rintro j d hj ρ ⟨o, rfl⟩
    cases j with
    | succ j => cases hj
    | zero =>
      obtain rfl : d = .str (dgt k) := (Option.some.inj hj).symm
      have e2 := inS_dgt h
      exact ⟨_, _, ct_t rfl rfl (by walk_at "ev") rfl rfl, ⟨_, rfl⟩, rfl⟩)
  have a1 := all_true c3
  have cmp : pComp 1 [] (iSigns (pVar 0)) (gN 0) qTrue (pOp inS (pVar 0) (pC (.str "0123456789"))) [some (.fz (.str (dgt k)))] = .ok (.ow ys, [some (.fz (.str (dgt k)))]) := ev_comp (ev_signs (by walk_at "ev") rfl) rfl c1
  have e3 : intS [.str (dgt k)] = some (.fz (nd k)) := by
    show (match PySem.intText? (dgt k) with
      | some n => if (dgt k).length ≤ 640 then some (RV.fz (.int n)) else none
      | none => none) = _
    rw [int_dgt k h]
    exact if_pos (show 1 ≤ 640 by decide)
  refine go_val (ρ := [some (.fz (.str (dgt k)))]) rfl ?_
  unfold g_read_number
  refine gs_if (b := !(decide ((1 : Int) ≤ 1) && decide ((1 : Int) ≤ 2)) || !true) (by walk_at "ev") (fun q => by cases q) (fun _ => gs_next ?_)
  refine gs_if (b := false) (ev_qand (a := false) (b := false) (by walk_at "ev") fun z => by cases z) (fun z => by cases z) fun _ => ?_
  walk_at "go"
  rfl
theorem all_read_ok {ds : List D} (hl : PyData.canLayAll0 ds = true) (hn : ∀ d ∈ ds, PyData.eqv d .none = false) : F_all_read [.list ds] = .ok (.fz (.tuple ds)) := by
  have e1 : inD .none (.list ds) = some (.fz (.bool false)) := by
    show (if (okD .none && PyData.canLayAll0 ds) = true then some (RV.fz (.bool (ds.any fun e => PyData.eqv e .none))) else none) = _
    rw [hl, show okD .none = true from rfl, Bool.and_self, if_pos rfl]
    refine go_t ?_
    rw [List.any_eq_false]
    intro d hd
    rw [hn d hd]
    exact Bool.false_ne_true
  refine go_val (ρ := [some (.fz (.list ds))]) rfl ?_
  unfold g_all_read
  walk_at "go"
  · intro q; cases q
  intro _
  walk_at "go"
  rfl
theorem numbers_read {n w : Nat} (hn : n < 10) (hw : w < 10) : F_read_numbers [.list [.str "keys", .str (dgt n), .str "wait", .str (dgt w)]] = .ok (.fz (.tuple [nd n, nd w])) := by
  have e1 := number_ok hn
  have e2 := number_ok hw
  have i1 : ixD (.list [.str "keys", .str (dgt n), .str "wait", .str (dgt w)]) (.int 0) = some (.fz (.str "keys")) := ixl0
  have i2 : ixD (.list [.str "keys", .str (dgt n), .str "wait", .str (dgt w)]) (.int 1) = some (.fz (.str (dgt n))) := ixl1
  have i3 : ixD (.list [.str "keys", .str (dgt n), .str "wait", .str (dgt w)]) (.int 2) = some (.fz (.str "wait")) := ixLi (by decide) rfl
  have i4 : ixD (.list [.str "keys", .str (dgt n), .str "wait", .str (dgt w)]) (.int 3) = some (.fz (.str (dgt w))) := ixLi (by decide) rfl
  have n1 : neD (.str "keys") (.str "keys") = some (.fz (.bool false)) := neS_f (by decide +kernel)
  have n2 : neD (.str "wait") (.str "wait") = some (.fz (.bool false)) := neS_f (by decide +kernel)
  have a1 : F_all_read [.list [nd n, nd w]] = .ok (.fz (.tuple [nd n, nd w])) := all_read_ok rfl fun d hd => by
    simp only [List.mem_cons, List.not_mem_nil, or_false] at hd
    rcases hd with rfl | rfl <;> rfl
  refine go_val (ρ := [some (.fz (.list [.str "keys", .str (dgt n), .str "wait", .str (dgt w)]))]) rfl ?_
  unfold g_read_numbers
  walk_at "go"
  · intro q; cases q
  intro _
  walk_at "go"
  rfl
/-! cut texts -/
theorem sl_all {z : Str} {lo hi : Option Int} {r : Str} (h : Txt.slice z lo hi = r) (hl : z.length ≤ 1000) : sliceS (.str z) lo hi = some (.fz (.str r)) := by
  show (if z.length ≤ 1000000 then some (RV.fz (.str (Txt.slice z lo hi))) else none) = _
  rw [if_pos (by omega), h]
theorem startsS_ok {z b : Str} {v : Bool} (h : Txt.startswith z b = v) : startsS z [.str b] = some (.fz (.bool v)) := by
  show some (RV.fz (.bool (Txt.startswith z b))) = _
  rw [h]
theorem is_letter_no {z : Str} (h : ¬ (z.length : Int) = 1) (hl : z.length ≤ 1000) : F_is_letter [.str z] = .ok (.fz (.bool false)) := by
  have e1 : lenS [.str z] = some (.fz (.int z.length)) := if_pos (by omega)
  have e2 : eqD (.int z.length) (.int 1) = some (.fz (.bool false)) := by rw [eqD_int]; exact go_t (decide_eq_false h)
  refine go_val (ρ := [some (.fz (.str z))]) rfl ?_
  unfold g_is_letter
  exact go_ret (ev_pand (a := false) (b := false) (by walk_at "ev") fun q => by cases q) rfl rfl
theorem t_sl1 : ∀ k : Nat, k < 10 → Txt.slice ⟨#[126, 48 + k]⟩ (some 1) none = dgt k := by decide +kernel
theorem t_sl2 : ∀ k : Nat, k < 10 → Txt.slice ⟨#[62, 48 + k]⟩ (some 1) none = dgt k := by decide +kernel
theorem t_sl3 : ∀ c : Nat, c < 26 → ∀ k : Nat, k < 10 → Txt.slice ⟨#[97 + c, 62, 48 + k]⟩ (some 2) none = dgt k := by decide +kernel
theorem t_sl4 : ∀ c : Nat, c < 26 → ∀ k : Nat, k < 10 → Txt.slice ⟨#[97 + c, 62, 48 + k]⟩ none (some 1) = ltr c := by decide +kernel
theorem t_sl5 : ∀ c : Nat, c < 26 → ∀ k : Nat, k < 10 → Txt.slice ⟨#[97 + c, 62, 48 + k]⟩ (some 1) (some 2) = ">" := by decide +kernel
theorem t_eq1 : ∀ c : Nat, c < 26 → (ltr c == ".") = false ∧ (ltr c == "_") = false := by decide +kernel
theorem t_eq2 : ∀ k : Nat, k < 10 → ((⟨#[126, 48 + k]⟩ : Str) == ".") = false ∧ ((⟨#[126, 48 + k]⟩ : Str) == "_") = false ∧ ((⟨#[62, 48 + k]⟩ : Str) == ".") = false ∧ ((⟨#[62, 48 + k]⟩ : Str) == "_") = false := by decide +kernel
theorem t_eq3 : ∀ c : Nat, c < 26 → ∀ k : Nat, k < 10 → ((⟨#[97 + c, 62, 48 + k]⟩ : Str) == ".") = false ∧ ((⟨#[97 + c, 62, 48 + k]⟩ : Str) == "_") = false := by decide +kernel
theorem t_sw1 : ∀ k : Nat, k < 10 → Txt.startswith ⟨#[126, 48 + k]⟩ "~" = true ∧ Txt.startswith ⟨#[62, 48 + k]⟩ "~" = false ∧ Txt.startswith ⟨#[62, 48 + k]⟩ ">" = true := by decide +kernel
theorem t_sw2 : ∀ c : Nat, c < 26 → ∀ k : Nat, k < 10 → Txt.startswith ⟨#[97 + c, 62, 48 + k]⟩ "~" = false ∧ Txt.startswith ⟨#[97 + c, 62, 48 + k]⟩ ">" = false := by decide +kernel
theorem t_ok1 : ∀ k : Nat, k < 10 → PyData.strOk ⟨#[126, 48 + k]⟩ = true ∧ PyData.strOk ⟨#[62, 48 + k]⟩ = true := by decide +kernel
theorem t_ok2 : ∀ c : Nat, c < 26 → ∀ k : Nat, k < 10 → PyData.strOk ⟨#[97 + c, 62, 48 + k]⟩ = true := by decide +kernel
theorem meaning_read {L nL : Int} {m : Mn} (h : VM L nL m) (h3 : nL ≤ 3) : F_read_meaning [.str (wS m)] = .ok (.fz (mD m)) := by
  refine go_val (ρ := [some (.fz (.str (wS m)))]) rfl ?_
  unfold g_read_meaning
  cases m with
  | none =>
    have e1 : eqD (.str (wS .none)) (.str ".") = some (.fz (.bool true)) := by rw [s_do]; exact eqS_t (by decide +kernel)
    walk_at "go"
    · intro _
      walk_at "go"
      rfl
    · intro q; cases q
  | below =>
    have e1 : eqD (.str (wS .below)) (.str ".") = some (.fz (.bool false)) := eqf (a := ⟨#[95]⟩) (by decide +kernel) (by decide +kernel) (by decide +kernel)
    have e2 : eqD (.str (wS .below)) (.str "_") = some (.fz (.bool true)) := by rw [s_un]; exact eqS_t (by decide +kernel)
    walk_at "go"
    · intro q; cases q
    intro _
    walk_at "go"
    · intro _
      walk_at "go"
      rfl
    · intro q; cases q
  | letter c =>
    have hc : c < 26 := h
    have e1 : eqD (.str (wS (.letter c))) (.str ".") = some (.fz (.bool false)) := eqf (ltr_ok c hc) (by decide +kernel) (t_eq1 c hc).1
    have e2 : eqD (.str (wS (.letter c))) (.str "_") = some (.fz (.bool false)) := eqf (ltr_ok c hc) (by decide +kernel) (t_eq1 c hc).2
    have e3 : F_is_letter [.str (wS (.letter c))] = .ok (.fz (.bool true)) := is_letter_ok hc
    walk_at "go"
    · intro q; cases q
    intro _
    walk_at "go"
    · intro q; cases q
    intro _
    walk_at "go"
    · intro _
      walk_at "go"
      rfl
    · intro q; cases q
  | once n =>
    have hn : 1 ≤ n ∧ n < nL := h
    have hk : n.toNat < 10 := by omega
    have en : nd n.toNat = .int n := by show PyData.int (n.toNat : Int) = _; rw [show (n.toNat : Int) = n by omega]
    have e1 : eqD (.str (wS (.once n))) (.str ".") = some (.fz (.bool false)) := eqf (t_ok1 _ hk).1 (by decide +kernel) (t_eq2 _ hk).1
    have e2 : eqD (.str (wS (.once n))) (.str "_") = some (.fz (.bool false)) := eqf (t_ok1 _ hk).1 (by decide +kernel) (t_eq2 _ hk).2.1
    have e3 : F_is_letter [.str (wS (.once n))] = .ok (.fz (.bool false)) := is_letter_no (by show ¬ ((2 : Nat) : Int) = 1; decide) (by show 2 ≤ 1000; decide)
    have e4 : startsS (wS (.once n)) [.str "~"] = some (.fz (.bool true)) := startsS_ok (t_sw1 _ hk).1
    have e5 : sliceS (.str (wS (.once n))) (some 1) none = some (.fz (.str (dgt n.toNat))) := sl_all (t_sl1 _ hk) (by show 2 ≤ 1000; decide)
    have e6 := number_ok hk
    rw [en] at e6
    have e7 : F_all_read [.list [.str "once", .int n]] = .ok (.fz (.tuple [.str "once", .int n])) := all_read_ok (by show (PyData.strOk "once" && true) = true; decide +kernel) fun d hd => by
      simp only [List.mem_cons, List.not_mem_nil, or_false] at hd
      rcases hd with rfl | rfl <;> rfl
    walk_at "go"
    · intro q; cases q
    intro _
    walk_at "go"
    · intro q; cases q
    intro _
    walk_at "go"
    · intro q; cases q
    intro _
    refine gs_next (gs_if (b := true) (ev_bool (ev_ms (rv := .fz (.bool true)) (by walk_at "ev") rfl (by walk_at "ev") rfl e4) rfl) (fun _ => ?_) fun z => by cases z)
    walk_at "go"
    rfl
  | layer n =>
    have hn : 1 ≤ n ∧ n < nL := h
    have hk : n.toNat < 10 := by omega
    have en : nd n.toNat = .int n := by show PyData.int (n.toNat : Int) = _; rw [show (n.toNat : Int) = n by omega]
    have e1 : eqD (.str (wS (.layer n))) (.str ".") = some (.fz (.bool false)) := eqf (t_ok1 _ hk).2 (by decide +kernel) (t_eq2 _ hk).2.2.1
    have e2 : eqD (.str (wS (.layer n))) (.str "_") = some (.fz (.bool false)) := eqf (t_ok1 _ hk).2 (by decide +kernel) (t_eq2 _ hk).2.2.2
    have e3 : F_is_letter [.str (wS (.layer n))] = .ok (.fz (.bool false)) := is_letter_no (by show ¬ ((2 : Nat) : Int) = 1; decide) (by show 2 ≤ 1000; decide)
    have e4 : startsS (wS (.layer n)) [.str "~"] = some (.fz (.bool false)) := startsS_ok (t_sw1 _ hk).2.1
    have e8 : startsS (wS (.layer n)) [.str ">"] = some (.fz (.bool true)) := startsS_ok (t_sw1 _ hk).2.2
    have e5 : sliceS (.str (wS (.layer n))) (some 1) none = some (.fz (.str (dgt n.toNat))) := sl_all (t_sl2 _ hk) (by show 2 ≤ 1000; decide)
    have e6 := number_ok hk
    rw [en] at e6
    have e7 : F_all_read [.list [.str "layer", .int n]] = .ok (.fz (.tuple [.str "layer", .int n])) := all_read_ok (by show (PyData.strOk "layer" && true) = true; decide +kernel) fun d hd => by
      simp only [List.mem_cons, List.not_mem_nil, or_false] at hd
      rcases hd with rfl | rfl <;> rfl
    walk_at "go"
    · intro q; cases q
    intro _
    walk_at "go"
    · intro q; cases q
    intro _
    walk_at "go"
    · intro q; cases q
    intro _
    refine gs_next (gs_if (b := false) (ev_bool (ev_ms (rv := .fz (.bool false)) (by walk_at "ev") rfl (by walk_at "ev") rfl e4) rfl) (fun z => by cases z) fun _ => gs_next ?_)
    refine gs_if (b := true) (ev_bool (ev_ms (rv := .fz (.bool true)) (by walk_at "ev") rfl (by walk_at "ev") rfl e8) rfl) (fun _ => ?_) fun z => by cases z
    walk_at "go"
    rfl
  | tap c n =>
    have hc : c < 26 := h.1
    have hn : 1 ≤ n ∧ n < nL := h.2
    have hk : n.toNat < 10 := by omega
    have en : nd n.toNat = .int n := by show PyData.int (n.toNat : Int) = _; rw [show (n.toNat : Int) = n by omega]
    have ok := t_ok2 c hc _ hk
    have e1 : eqD (.str (wS (.tap c n))) (.str ".") = some (.fz (.bool false)) := eqf ok (by decide +kernel) (t_eq3 c hc _ hk).1
    have e2 : eqD (.str (wS (.tap c n))) (.str "_") = some (.fz (.bool false)) := eqf ok (by decide +kernel) (t_eq3 c hc _ hk).2
    have e3 : F_is_letter [.str (wS (.tap c n))] = .ok (.fz (.bool false)) := is_letter_no (by show ¬ ((3 : Nat) : Int) = 1; decide) (by show 3 ≤ 1000; decide)
    have e4 : startsS (wS (.tap c n)) [.str "~"] = some (.fz (.bool false)) := startsS_ok (t_sw2 c hc _ hk).1
    have e8 : startsS (wS (.tap c n)) [.str ">"] = some (.fz (.bool false)) := startsS_ok (t_sw2 c hc _ hk).2
    have e5 : sliceS (.str (wS (.tap c n))) (some 2) none = some (.fz (.str (dgt n.toNat))) := sl_all (t_sl3 c hc _ hk) (by show 3 ≤ 1000; decide)
    have e9 : sliceS (.str (wS (.tap c n))) none (some 1) = some (.fz (.str (ltr c))) := sl_all (t_sl4 c hc _ hk) (by show 3 ≤ 1000; decide)
    have e10 : sliceS (.str (wS (.tap c n))) (some 1) (some 2) = some (.fz (.str ">")) := sl_all (t_sl5 c hc _ hk) (by show 3 ≤ 1000; decide)
    have e11 : F_is_letter [.str (ltr c)] = .ok (.fz (.bool true)) := is_letter_ok hc
    have e12 : eqD (.str ">") (.str ">") = some (.fz (.bool true)) := eqS_t (by decide +kernel)
    have e13 : ixS (.str (wS (.tap c n))) (.int 0) = some (.fz (.str (ltr c))) := rfl
    have e6 := number_ok hk
    rw [en] at e6
    have e7 : F_all_read [.list [.str "tap", .str (ltr c), .int n]] = .ok (.fz (.tuple [.str "tap", .str (ltr c), .int n])) := all_read_ok (by show (PyData.strOk "tap" && (PyData.strOk (ltr c) && true)) = true; rw [ltr_ok c hc]; decide +kernel) fun d hd => by
      simp only [List.mem_cons, List.not_mem_nil, or_false] at hd
      rcases hd with rfl | rfl | rfl <;> rfl
    walk_at "go"
    · intro q; cases q
    intro _
    walk_at "go"
    · intro q; cases q
    intro _
    walk_at "go"
    · intro q; cases q
    intro _
    refine gs_next (gs_if (b := false) (ev_bool (ev_ms (rv := .fz (.bool false)) (by walk_at "ev") rfl (by walk_at "ev") rfl e4) rfl) (fun z => by cases z) fun _ => gs_next ?_)
    refine gs_if (b := false) (ev_bool (ev_ms (rv := .fz (.bool false)) (by walk_at "ev") rfl (by walk_at "ev") rfl e8) rfl) (fun z => by cases z) fun _ => gs_next ?_
    walk_at "go"
    · intro _
      walk_at "go"
      rfl
    · intro q; cases q
/-! ### rows -/
theorem comp_mapv {α : Type} {f g : α → D} {fe : FE} {cp : PEnv} (xs : List α) (hl : xs.length ≤ 1000000) (hc : forget cp = cp) (he : ∀ x ∈ xs, fe (some (.fz (f x)) :: cp) = .ok (.fz (g x), some (.fz (f x)) :: cp)) : noEr (compP (gN 0) qTrue fe (xs.map f) (none :: cp) []) = .ok (xs.map g) := by
  obtain ⟨ys, h1, h2, h3⟩ := comp_map (gt := gN 0) (ft := qTrue) (fe := fe) (ds := xs.map f) (ρ := none :: cp) (fun ρ => ∃ o, ρ = o :: cp) (fun i y => ∃ x, xs[i]? = some x ∧ y = g x) ⟨none, rfl⟩ (by rw [List.length_map]; exact hl) (by
    rintro i d hi ρ ⟨o, rfl⟩
    rw [List.getElem?_map] at hi
    cases q : xs[i]? with
    | none => rw [q] at hi; cases hi
    | some x =>
      obtain rfl : d = f x := by rw [q] at hi; exact (Option.some.inj hi).symm
      have fg : forget (some (PV.fz (f x)) :: cp) = some (.fz (f x)) :: cp := by
        show keepF _ :: forget cp = _
        rw [hc]; rfl
      exact ⟨_, _, ct_t rfl rfl (he x (List.mem_of_getElem? q)) rfl fg, ⟨_, rfl⟩, x, rfl, rfl⟩)
  rw [h1]
  congr 1
  refine List.ext_getElem? fun i => ?_
  rw [List.getElem?_map]
  cases q : ys[i]? with
  | none =>
    have : xs.length ≤ i := by
      have := List.getElem?_eq_none_iff.mp q
      rw [h2, List.length_map] at this
      exact this
    rw [List.getElem?_eq_none this]; rfl
  | some y =>
    obtain ⟨x, h4, rfl⟩ := h3 i y q
    rw [h4]; rfl
theorem s_sp : (" " : Str) = ⟨#[32]⟩ := by decide +kernel
theorem s_nl : ("\n" : Str) = ⟨#[10]⟩ := by decide +kernel
theorem s_pl : ("+" : Str) = ⟨#[43]⟩ := by decide +kernel
noncomputable def rowK (n w : Nat) : Str := PySem.Str.join ⟨#[32]⟩ ["keys", dgt n, "wait", dgt w]
noncomputable def rowL (l : List Mn) : Str := PySem.Str.join ⟨#[32]⟩ ("layer" :: l.map wS)
noncomputable def keyS (s : List Nat) : Str := PySem.Str.join ⟨#[43]⟩ (s.map dgt)
noncomputable def rowC (c : List Nat × Nat) : Str := PySem.Str.join ⟨#[32]⟩ ["chord", keyS c.1, ltr c.2]
noncomputable def restB (b : Bd) : List Str := b.ls.map rowL ++ b.cs.map rowC
noncomputable def textB (b : Bd) : Str := PySem.Str.join ⟨#[10]⟩ (rowK b.n.toNat b.wt.toNat :: restB b)
theorem row_f2 : ∀ n : Nat, n < 10 → ∀ w : Nat, w < 10 → PySem.Str.empty ++ ("keys " : Str) ++ dgt n ++ (" wait " : Str) ++ dgt w = rowK n w := by decide +kernel
theorem row_law : ∀ n : Nat, n < 10 → ∀ w : Nat, w < 10 → ("keys " : Str) ++ dgt n ++ (" wait " : Str) ++ dgt w = rowK n w := by decide +kernel
theorem lay_sp : ("layer " : Str) = ("layer" : Str) ++ ⟨#[32]⟩ := by decide +kernel
theorem cho_sp : ("chord " : Str) = ("chord" : Str) ++ ⟨#[32]⟩ := by decide +kernel
theorem wS_len (m : Mn) : (wS m).length ≤ 3 := by cases m <;> (first | exact (show 1 ≤ 3 by decide) | exact (show 2 ≤ 3 by decide) | exact (show 3 ≤ 3 by decide))
theorem in_cons_len {α : Type} {P : α → Prop} {a : α} {l : List α} (h1 : P a) (h2 : ∀ x ∈ l, P x) : ∀ x ∈ a :: l, P x := fun x hx => by
  rcases List.mem_cons.mp hx with z | z
  · rw [z]; exact h1
  · exact h2 x z
theorem words_len (l : List Mn) : ∀ w ∈ ("layer" : Str) :: l.map wS, w.length ≤ 5 := in_cons_len (by decide +kernel) fun w hw => by
  obtain ⟨m, _, rfl⟩ := List.mem_map.mp hw
  exact Nat.le_trans (wS_len m) (by decide)
theorem dgts_len (s : List Nat) : ∀ w ∈ s.map dgt, w.length ≤ 1 := fun w hw => by obtain ⟨k, _, rfl⟩ := List.mem_map.mp hw; exact Nat.le_refl _
theorem keyS_len {s : List Nat} (h : s.length ≤ 5) : (keyS s).length ≤ 10 := by
  have := join_len (d := 43) (dgts_len s)
  rw [List.length_map] at this
  unfold keyS
  omega
theorem cw_len {c : List Nat × Nat} (h : c.1.length ≤ 5) : ∀ w ∈ [("chord" : Str), keyS c.1, ltr c.2], w.length ≤ 10 := in_cons_len (by decide +kernel) (in_cons_len (keyS_len h) (in_cons_len (by show 1 ≤ 10; decide) fun _ z => by cases z))
theorem rowL_len {l : List Mn} (h : l.length ≤ 5) : (rowL l).length ≤ 36 := by
  have := join_len (d := 32) (words_len l)
  rw [List.length_cons, List.length_map] at this
  unfold rowL
  omega
theorem rowC_len {c : List Nat × Nat} (h : c.1.length ≤ 5) : (rowC c).length ≤ 36 := by
  have := join_len (d := 32) (cw_len h)
  have e : [("chord" : Str), keyS c.1, ltr c.2].length = 3 := rfl
  rw [e] at this
  unfold rowC
  omega
theorem rowK_len : ∀ n : Nat, n < 10 → ∀ w : Nat, w < 10 → (rowK n w).length ≤ 36 := by decide +kernel
section
variable {b : Bd}
theorem lay_len (h : VB b) {l : List Mn} (hl : l ∈ b.ls) : 1 ≤ l.length ∧ l.length ≤ 5 ∧ ∃ i : Nat, ∀ m ∈ l, VM i b.ls.length m := by
  obtain ⟨i, hi⟩ := List.mem_iff_getElem?.mp hl
  obtain ⟨h1, h2⟩ := h.vl i l hi
  have := h.n1
  have := h.n5
  exact ⟨by omega, by omega, i, h2⟩
theorem ch_len (h : VB b) {c : List Nat × Nat} (hc : c ∈ b.cs) : 2 ≤ c.1.length ∧ c.1.length ≤ 5 ∧ (∀ k ∈ c.1, k < 10) ∧ c.2 < 26 := by
  have v := h.vc c hc
  have h0 : (b.ls.headD []).length ≤ 5 := by
    cases q : b.ls with
    | nil => exact Nat.zero_le _
    | cons l0 r => exact (lay_len h (by rw [q]; exact List.mem_cons_self)).2.1
  have := vc_len v
  refine ⟨v.1, by omega, fun k hk => ?_, v.2.2.2⟩
  have := v.2.2.1 k hk
  unfold okK at this
  cases q : (b.ls.headD [])[k]? with
  | none => rw [q] at this; cases this
  | some m =>
    have := (List.getElem?_eq_some_iff.mp q).1
    omega
theorem rows_len (h : VB b) : ∀ r ∈ rowK b.n.toNat b.wt.toNat :: restB b, r.length ≤ 36 := by
  have h1 := h.n5
  have h2 := h.w4
  refine in_cons_len (rowK_len _ (by omega) _ (by omega)) fun r hr => ?_
  rcases List.mem_append.mp hr with z | z
  · obtain ⟨l, hl, rfl⟩ := List.mem_map.mp z
    exact rowL_len (lay_len h hl).2.1
  · obtain ⟨c, hc, rfl⟩ := List.mem_map.mp z
    exact rowC_len (ch_len h hc).2.1
theorem rest_len (h : VB b) : (restB b).length ≤ 7 := by
  have h1 := h.l3
  have h2 := h.c4
  unfold restB
  rw [List.length_append, List.length_map, List.length_map]
  omega
theorem ev_dgts {s : List Nat} (hs : ∀ k ∈ s, k < 10) (hl : s.length ≤ 5) : noEr (compP (gN 0) qTrue (pCB strS (aCons (pVar 0) aNil)) (nds s) [none] []) = .ok ((s.map dgt).map .str) := by
  have := comp_mapv (f := nd) (g := fun k => .str (dgt k)) (fe := pCB strS (aCons (pVar 0) aNil)) (cp := []) s (by omega) rfl fun k hk => by
    have hk9 := hs k hk
    have e := strS_dgt (i := (k : Int)) (by omega) (by omega)
    rw [Int.toNat_natCast] at e
    exact ev_cb (rv := .fz (.str (dgt k))) (by walk_at "ev") rfl e
  rw [List.map_map]
  exact this
theorem plus_ok {s : List Nat} (hs : ∀ k ∈ s, k < 10) (hl : s.length ≤ 5) : joinS "+" [.list ((s.map dgt).map .str)] = some (.fz (.str (keyS s))) := by
  rw [s_pl]
  exact joinS_ok (dgts_len s) (by rw [List.length_map]; omega)
theorem shown_ok (h : VB b) : F_shown_bed [bD b] = .ok (.fz (.str (textB b))) := by
  have n1 := h.n1
  have n5 := h.n5
  have w1 := h.w1
  have w4 := h.w4
  have l3 := h.l3
  have c4 := h.c4
  have e0 := b_0 (b := b)
  have e1 := b_1 (b := b)
  have e2 := b_2 (b := b)
  have e3 := b_3 (b := b)
  have en : PySem.Str.ofString (toString b.n) = dgt b.n.toNat := by rw [show b.n = ((b.n.toNat : Nat) : Int) by omega]; exact dgt_of _ (by omega)
  have ew : PySem.Str.ofString (toString b.wt) = dgt b.wt.toNat := by rw [show b.wt = ((b.wt.toNat : Nat) : Int) by omega]; exact dgt_of _ (by omega)
  have ef : f2 "keys " " wait " b.n b.wt = rowK b.n.toNat b.wt.toNat := by
    unfold f2
    rw [en, ew]
    exact row_f2 _ (by omega) _ (by omega)
  have lf : (f2 "keys " " wait " b.n b.wt).length ≤ 36 := by rw [ef]; exact rowK_len _ (by omega) _ (by omega)
  refine go_val (ρ := [some (.fz (bD b)), none, none, none, none, none]) rfl ?_
  unfold g_shown_bed
  walk_at "go"
  have f := ev_f2 (a := "keys ") (b := " wait ") (fe := pVar 1) (ff := pVar 2) (ρ := [some (.fz (bD b)), some (.fz (.int b.n)), some (.fz (.int b.wt)), none, none, none]) (i := b.n) (j := b.wt) (ev_var rfl) rfl (ev_var rfl) rfl ⟨by omega, by
    have : (PySem.Str.empty ++ ("keys " : Str) ++ PySem.Str.ofString (toString b.n) ++ (" wait " : Str)).length ≤ (f2 "keys " " wait " b.n b.wt).length := len_pre _ _
    omega⟩ ⟨by omega, by omega⟩
  rw [ef] at f
  walk_at "go"
  with_reducible apply gs_for (fun i ρ => ∃ t4 : Option PV, ρ = [some (.fz (bD b)), some (.fz (.int b.n)), some (.fz (.int b.wt)), some (.ow ((rowK b.n.toNat b.wt.toNat :: (b.ls.take i).map rowL).map .str)), t4, none])
  · exact ev_iseq (d := .tuple (b.ls.map lyD)) (by walk_at "ev") rfl rfl
  · exact ⟨none, rfl⟩
  · rintro i d ρ hi ⟨t4, rfl⟩
    rw [List.getElem?_map] at hi
    cases q : b.ls[i]? with
    | none => rw [q] at hi; cases hi
    | some l =>
      obtain rfl : d = lyD l := by rw [q] at hi; exact (Option.some.inj hi).symm
      obtain ⟨hl1, hl5, j, hv⟩ := lay_len h (List.mem_of_getElem? q)
      have hil := (List.getElem?_eq_some_iff.mp q).1
      have c1 := comp_mapv (f := mD) (g := fun m => .str (wS m)) (fe := pCal F_shown_meaning 1 (aCons (pVar 0) aNil)) (cp := []) l (by omega) rfl fun m hm => by
        have e := shown_m (hv m hm) (by omega)
        exact ev_cal (rv := .fz (.str (wS m))) (by walk_at "ev") rfl rfl e
      have a1 : addD (.list [.str "layer"]) (.list (l.map fun m => .str (wS m))) = some (.ow ((("layer" : Str) :: l.map wS).map .str)) := by
        show (if 1 + (l.map fun m => PyData.str (wS m)).length ≤ 1000000 then some (RV.ow ([.str "layer"] ++ l.map fun m => .str (wS m))) else none) = _
        rw [List.length_map, if_pos (by omega), List.map_cons, List.map_map]
        rfl
      have j1 : joinS " " [.list ((("layer" : Str) :: l.map wS).map .str)] = some (.fz (.str (rowL l))) := by
        rw [s_sp]
        exact joinS_ok (words_len l) (by rw [List.length_cons, List.length_map]; omega)
      have hlen : ((rowK b.n.toNat b.wt.toNat :: (b.ls.take i).map rowL).map PyData.str).length < 1000000 := by rw [List.length_map, List.length_cons, List.length_map, List.length_take]; omega
      refine ⟨_, rfl, go_drop (pv := .fz .none) (ev_app rfl (ev_ms (rv := .fz (.str (rowL l))) ev_c rfl (ev_cons (ev_op (rv := .ow _) (by walk_at "ev") (ev_comp (ev_iseq (d := lyD l) (by walk_at "ev") rfl rfl) rfl c1) rfl rfl a1) ev_nil) rfl j1) rfl rfl hlen rfl) ⟨some (.fz (lyD l)), ?_⟩⟩
      rw [List.take_add_one, q]
      simp only [Option.toList_some, List.map_append, List.map_cons, List.map_nil, List.cons_append]
      rfl
  · rintro ρ ⟨t4, rfl⟩
    rw [List.length_map, List.take_of_length_le (Nat.le_refl _)]
    with_reducible apply gs_for (fun i ρ => ∃ t5 : Option PV, ρ = [some (.fz (bD b)), some (.fz (.int b.n)), some (.fz (.int b.wt)), some (.ow ((rowK b.n.toNat b.wt.toNat :: (b.ls.map rowL ++ (b.cs.take i).map rowC)).map .str)), t4, t5])
    · exact ev_iseq (d := .tuple (b.cs.map chD)) (by walk_at "ev") rfl rfl
    · exact ⟨none, by rw [List.take_zero, List.map_nil, List.append_nil]⟩
    · rintro i d ρ hi ⟨t5, rfl⟩
      rw [List.getElem?_map] at hi
      cases q : b.cs[i]? with
      | none => rw [q] at hi; cases hi
      | some c =>
        obtain rfl : d = chD c := by rw [q] at hi; exact (Option.some.inj hi).symm
        obtain ⟨hc2, hc5, hk, hc26⟩ := ch_len h (List.mem_of_getElem? q)
        have i0 : ixD (chD c) (.int 0) = some (.fz (.tuple (nds c.1))) := ixt0
        have i1 : ixD (chD c) (.int 1) = some (.fz (.str (ltr c.2))) := ixt1
        have c1 := ev_dgts hk hc5
        have j2 := plus_ok hk hc5
        have j1 : joinS " " [.list ([("chord" : Str), keyS c.1, ltr c.2].map .str)] = some (.fz (.str (rowC c))) := by
          rw [s_sp]
          exact joinS_ok (cw_len hc5) (by show 3 * 10 + 3 ≤ 1000000; decide)
        have hlen : ((rowK b.n.toNat b.wt.toNat :: (b.ls.map rowL ++ (b.cs.take i).map rowC)).map PyData.str).length < 1000000 := by rw [List.length_map, List.length_cons, List.length_append, List.length_map, List.length_map, List.length_take]; omega
        refine ⟨_, rfl, go_drop (pv := .fz .none) (ev_app rfl (ev_ms (rv := .fz (.str (rowC c))) ev_c rfl (ev_cons (ev_lst (ev_cons ev_c (ev_cons (ev_ms (rv := .fz (.str (keyS c.1))) ev_c rfl (ev_cons (ev_comp (ev_iseq (d := .tuple (nds c.1)) (by walk_at "ev") rfl rfl) rfl c1) ev_nil) rfl j2) (ev_cons (ev_op (rv := .fz (.str (ltr c.2))) (by walk_at "ev") ev_c rfl rfl i1) ev_nil))) rfl (by show 3 ≤ 1000; decide)) ev_nil) rfl j1) rfl rfl hlen rfl) ⟨some (.fz (chD c)), ?_⟩⟩
        rw [List.take_add_one, q]
        simp only [Option.toList_some, List.map_append, List.map_cons, List.map_nil, List.cons_append, List.append_assoc]
        rfl
    · rintro ρ ⟨t5, rfl⟩
      rw [List.length_map, List.take_of_length_le (Nat.le_refl _)]
      have j1 : joinS "\n" [.list ((rowK b.n.toNat b.wt.toNat :: restB b).map .str)] = some (.fz (.str (textB b))) := by
        rw [s_nl]
        have := rest_len h
        exact joinS_ok (rows_len h) (by rw [List.length_cons]; omega)
      exact go_ret (ev_ms (rv := .fz (.str (textB b))) ev_c rfl (by walk_at "ev") rfl j1) rfl rfl
end
section
variable {b : Bd}
theorem join_cons2 {d : Nat} {x y : Str} {r : List Str} : PySem.Str.join ⟨#[d]⟩ (x :: y :: r) = x ++ ⟨#[d]⟩ ++ PySem.Str.join ⟨#[d]⟩ (y :: r) := rfl
theorem text_ok (h : VB b) : F__law_text [bD b] = .ok (.fz (.str (textB b))) := by
  have n1 := h.n1
  have n5 := h.n5
  have w1 := h.w1
  have w4 := h.w4
  have l3 := h.l3
  have c4 := h.c4
  have e0 := b_0 (b := b)
  have e1 := b_1 (b := b)
  have e2 := b_2 (b := b)
  have e3 := b_3 (b := b)
  have s1 := strS_dgt (i := b.n) (by omega) (by omega)
  have s2 := strS_dgt (i := b.wt) (by omega) (by omega)
  have er := row_law b.n.toNat (by omega) b.wt.toNat (by omega)
  have kl : ("keys " : Str).length = 5 := by decide +kernel
  have wl : (" wait " : Str).length = 6 := by decide +kernel
  have a1 : addS (.str "keys ") (.str (dgt b.n.toNat)) = some (.fz (.str (("keys " : Str) ++ dgt b.n.toNat))) := addS_ok rfl (by rw [kl]; show 5 + 1 ≤ 1000; decide)
  have a2 : addS (.str (("keys " : Str) ++ dgt b.n.toNat)) (.str " wait ") = some (.fz (.str (("keys " : Str) ++ dgt b.n.toNat ++ (" wait " : Str)))) := addS_ok rfl (by rw [PySem.Str.length_append, kl, wl]; show 5 + 1 + 6 ≤ 1000; decide)
  have a3 : addS (.str (("keys " : Str) ++ dgt b.n.toNat ++ (" wait " : Str))) (.str (dgt b.wt.toNat)) = some (.fz (.str (rowK b.n.toNat b.wt.toNat))) := addS_ok er (by rw [PySem.Str.length_append, PySem.Str.length_append, kl, wl]; show 5 + 1 + 6 + 1 ≤ 1000; decide)
  refine go_val (ρ := [some (.fz (bD b)), none, none, none, none]) rfl ?_
  unfold g__law_text
  walk_at "go"
  with_reducible apply gs_for (fun i ρ => ∃ t2 : Option PV, ρ = [some (.fz (bD b)), some (.ow ((rowK b.n.toNat b.wt.toNat :: (b.ls.take i).map rowL).map .str)), t2, none, none])
  · exact ev_iseq (d := .tuple (b.ls.map lyD)) (by walk_at "ev") rfl rfl
  · exact ⟨none, rfl⟩
  · rintro i d ρ hi ⟨t2, rfl⟩
    rw [List.getElem?_map] at hi
    cases q : b.ls[i]? with
    | none => rw [q] at hi; cases hi
    | some l =>
      obtain rfl : d = lyD l := by rw [q] at hi; exact (Option.some.inj hi).symm
      obtain ⟨hl1, hl5, j, hv⟩ := lay_len h (List.mem_of_getElem? q)
      have hil := (List.getElem?_eq_some_iff.mp q).1
      have c1 := comp_mapv (f := mD) (g := fun m => .str (wS m)) (fe := pCal F__law_word 1 (aCons (pVar 0) aNil)) (cp := []) l (by omega) rfl fun m hm => by
        have e := law_word_ok (hv m hm) (by omega)
        exact ev_cal (rv := .fz (.str (wS m))) (by walk_at "ev") rfl rfl e
      have em : (l.map fun m => PyData.str (wS m)) = (l.map wS).map .str := by rw [List.map_map]; rfl
      rw [em] at c1
      have jl : ∀ w ∈ l.map wS, w.length ≤ 3 := fun w hw => by obtain ⟨m, _, rfl⟩ := List.mem_map.mp hw; exact wS_len m
      have j1 : joinS " " [.list ((l.map wS).map .str)] = some (.fz (.str (PySem.Str.join ⟨#[32]⟩ (l.map wS)))) := by
        rw [s_sp]
        exact joinS_ok jl (by rw [List.length_map]; omega)
      have jlen := join_len (d := 32) jl
      rw [List.length_map] at jlen
      have a4 : addS (.str "layer ") (.str (PySem.Str.join ⟨#[32]⟩ (l.map wS))) = some (.fz (.str (rowL l))) := addS_ok (by
        unfold rowL
        cases l with
        | nil => cases hl1
        | cons m r => rw [lay_sp, List.map_cons, join_cons2]) (by
        have : ("layer " : Str).length = 6 := by decide +kernel
        omega)
      have hlen : ((rowK b.n.toNat b.wt.toNat :: (b.ls.take i).map rowL).map PyData.str).length < 1000000 := by rw [List.length_map, List.length_cons, List.length_map, List.length_take]; omega
      refine ⟨_, rfl, go_drop (pv := .fz .none) (ev_app rfl (ev_op (rv := .fz (.str (rowL l))) ev_c (ev_ms (rv := .fz (.str _)) ev_c rfl (ev_cons (ev_comp (ev_iseq (d := lyD l) (by walk_at "ev") rfl rfl) rfl c1) ev_nil) rfl j1) rfl rfl a4) rfl rfl hlen rfl) ⟨some (.fz (lyD l)), ?_⟩⟩
      rw [List.take_add_one, q]
      simp only [Option.toList_some, List.map_append, List.map_cons, List.map_nil, List.cons_append]
      rfl
  · rintro ρ ⟨t2, rfl⟩
    rw [List.length_map, List.take_of_length_le (Nat.le_refl _)]
    with_reducible apply gs_for (fun i ρ => ∃ t3 t4 : Option PV, ρ = [some (.fz (bD b)), some (.ow ((rowK b.n.toNat b.wt.toNat :: (b.ls.map rowL ++ (b.cs.take i).map rowC)).map .str)), t2, t3, t4])
    · exact ev_iseq (d := .tuple (b.cs.map chD)) (by walk_at "ev") rfl rfl
    · exact ⟨none, none, by rw [List.take_zero, List.map_nil, List.append_nil]⟩
    · rintro i d ρ hi ⟨t3, t4, rfl⟩
      rw [List.getElem?_map] at hi
      cases q : b.cs[i]? with
      | none => rw [q] at hi; cases hi
      | some c =>
        obtain rfl : d = chD c := by rw [q] at hi; exact (Option.some.inj hi).symm
        obtain ⟨hc2, hc5, hk, hc26⟩ := ch_len h (List.mem_of_getElem? q)
        have c1 := ev_dgts hk hc5
        have j2 := plus_ok hk hc5
        have kl := keyS_len hc5
        have cl : ("chord " : Str).length = 6 := by decide +kernel
        have sl : (" " : Str).length = 1 := by decide +kernel
        have a4 : addS (.str "chord ") (.str (keyS c.1)) = some (.fz (.str (("chord " : Str) ++ keyS c.1))) := addS_ok rfl (by omega)
        have a5 : addS (.str (("chord " : Str) ++ keyS c.1)) (.str " ") = some (.fz (.str (("chord " : Str) ++ keyS c.1 ++ (" " : Str)))) := addS_ok rfl (by rw [PySem.Str.length_append]; omega)
        have a6 : addS (.str (("chord " : Str) ++ keyS c.1 ++ (" " : Str))) (.str (ltr c.2)) = some (.fz (.str (rowC c))) := addS_ok (by
          unfold rowC
          rw [join_cons2, join_cons2, cho_sp, s_sp]
          show _ = _ ++ (_ ++ _ ++ ltr c.2)
          simp only [PySem.Str.append_assoc]) (by rw [PySem.Str.length_append, PySem.Str.length_append]; have : (ltr c.2).length = 1 := rfl; omega)
        have hlen : ((rowK b.n.toNat b.wt.toNat :: (b.ls.map rowL ++ (b.cs.take i).map rowC)).map PyData.str).length < 1000000 := by rw [List.length_map, List.length_cons, List.length_append, List.length_map, List.length_map, List.length_take]; omega
        refine ⟨[some (.fz (bD b)), some (.ow ((rowK b.n.toNat b.wt.toNat :: (b.ls.map rowL ++ (b.cs.take i).map rowC)).map .str)), t2, some (.fz (.tuple (nds c.1))), some (.fz (.str (ltr c.2)))], rfl, go_drop (pv := .fz .none) (ev_app rfl (ev_op (rv := .fz (.str (rowC c))) (ev_op (rv := .fz (.str _)) (ev_op (rv := .fz (.str _)) ev_c (ev_ms (rv := .fz (.str (keyS c.1))) ev_c rfl (ev_cons (ev_comp (ev_iseq (d := .tuple (nds c.1)) (by walk_at "ev") rfl rfl) rfl c1) ev_nil) rfl j2) rfl rfl a4) ev_c rfl rfl a5) (by walk_at "ev") rfl rfl a6) rfl rfl hlen rfl) ⟨some (.fz (.tuple (nds c.1))), some (.fz (.str (ltr c.2))), ?_⟩⟩
        rw [List.take_add_one, q]
        simp only [Option.toList_some, List.map_append, List.map_cons, List.map_nil, List.cons_append, List.append_assoc]
        rfl
    · rintro ρ ⟨t3, t4, rfl⟩
      rw [List.length_map, List.take_of_length_le (Nat.le_refl _)]
      have j1 : joinS "\n" [.list ((rowK b.n.toNat b.wt.toNat :: restB b).map .str)] = some (.fz (.str (textB b))) := by
        rw [s_nl]
        have := rest_len h
        exact joinS_ok (rows_len h) (by rw [List.length_cons]; omega)
      exact go_ret (ev_ms (rv := .fz (.str (textB b))) ev_c rfl (by walk_at "ev") rfl j1) rfl rfl
/-! what stands in no word -/
theorem fr_wS {L nL : Int} {m : Mn} (h : VM L nL m) {x : Nat} (hx : x = 32 ∨ x = 10) : Fr x (wS m) := by
  unfold Fr
  cases m with
  | letter c => intro z; have := List.mem_singleton.mp (show x ∈ [97 + c] from z); omega
  | none => intro z; have := List.mem_singleton.mp (show x ∈ [46] from z); omega
  | below => intro z; have := List.mem_singleton.mp (show x ∈ [95] from z); omega
  | layer n => intro z; have z : x ∈ [62, 48 + n.toNat] := z; simp only [List.mem_cons, List.not_mem_nil, or_false] at z; omega
  | once n => intro z; have z : x ∈ [126, 48 + n.toNat] := z; simp only [List.mem_cons, List.not_mem_nil, or_false] at z; omega
  | tap c n => intro z; have z : x ∈ [97 + c, 62, 48 + n.toNat] := z; simp only [List.mem_cons, List.not_mem_nil, or_false] at z; omega
theorem fr_dgt {k x : Nat} (hx : x < 48) : Fr x (dgt k) := by
  unfold Fr
  intro z
  have := List.mem_singleton.mp (show x ∈ [48 + k] from z)
  omega
theorem fr_ltr {c x : Nat} (hx : x < 97) : Fr x (ltr c) := by
  unfold Fr
  intro z
  have := List.mem_singleton.mp (show x ∈ [97 + c] from z)
  omega
theorem fr_words : Fr 32 "keys" ∧ Fr 32 "wait" ∧ Fr 32 "layer" ∧ Fr 32 "chord" ∧ Fr 10 "keys" ∧ Fr 10 "wait" ∧ Fr 10 "layer" ∧ Fr 10 "chord" := by
  unfold Fr
  decide +kernel
theorem fr_key {s : List Nat} {x : Nat} (hx : x ≠ 43) (h : x < 48) : Fr x (keyS s) := fr_join hx fun w hw => by obtain ⟨k, _, rfl⟩ := List.mem_map.mp hw; exact fr_dgt h
theorem none_in {P : Str → Prop} : ∀ w ∈ ([] : List Str), P w := fun _ z => by cases z
theorem fr_K {n w x : Nat} (hx : x = 32 ∨ x = 10) : ∀ s ∈ [("keys" : Str), dgt n, "wait", dgt w], Fr x s := by
  obtain ⟨a1, a2, _, _, a5, a6, _, _⟩ := fr_words
  rcases hx with rfl | rfl
  · exact in_cons_len a1 (in_cons_len (fr_dgt (by decide)) (in_cons_len a2 (in_cons_len (fr_dgt (by decide)) none_in)))
  · exact in_cons_len a5 (in_cons_len (fr_dgt (by decide)) (in_cons_len a6 (in_cons_len (fr_dgt (by decide)) none_in)))
theorem fr_L {l : List Mn} {L nL : Int} (hv : ∀ m ∈ l, VM L nL m) {x : Nat} (hx : x = 32 ∨ x = 10) : ∀ s ∈ ("layer" : Str) :: l.map wS, Fr x s := by
  obtain ⟨_, _, a3, _, _, _, a7, _⟩ := fr_words
  refine in_cons_len ?_ fun s hs => by obtain ⟨m, hm, rfl⟩ := List.mem_map.mp hs; exact fr_wS (hv m hm) hx
  rcases hx with rfl | rfl
  · exact a3
  · exact a7
theorem fr_C {c : List Nat × Nat} {x : Nat} (hx : x = 32 ∨ x = 10) : ∀ s ∈ [("chord" : Str), keyS c.1, ltr c.2], Fr x s := by
  obtain ⟨_, _, _, a4, _, _, _, a8⟩ := fr_words
  rcases hx with rfl | rfl
  · exact in_cons_len a4 (in_cons_len (fr_key (by decide) (by decide)) (in_cons_len (fr_ltr (by decide)) none_in))
  · exact in_cons_len a8 (in_cons_len (fr_key (by decide) (by decide)) (in_cons_len (fr_ltr (by decide)) none_in))
theorem fr_rows (h : VB b) : ∀ r ∈ rowK b.n.toNat b.wt.toNat :: restB b, Fr 10 r := by
  refine in_cons_len (fr_join (by decide) (fr_K (.inr rfl))) fun r hr => ?_
  rcases List.mem_append.mp hr with z | z
  · obtain ⟨l, hl, rfl⟩ := List.mem_map.mp z
    obtain ⟨_, _, i, hv⟩ := lay_len h hl
    exact fr_join (by decide) (fr_L hv (.inr rfl))
  · obtain ⟨c, hc, rfl⟩ := List.mem_map.mp z
    exact fr_join (by decide) (fr_C (.inr rfl))
end
section
variable {b : Bd}
theorem cut1 {d : D} {r : List D} : slD (.list (d :: r)) (some 1) none = some (.ow r) := by
  show some (RV.ow (cutD (d :: r) (some 1) none)) = _
  have sl1 : HT.sIx (d :: r).length 0 (some 1) = 1 := by
    have := HT.sIx_nat (d :: r).length 0 1
    rw [show ((1 : Nat) : Int) = 1 from rfl, List.length_cons] at this
    rw [List.length_cons]
    omega
  unfold cutD
  rw [sl1, HT.sIx_none, List.drop_succ_cons, List.drop_zero, List.take_of_length_le (by rw [List.length_cons]; omega)]
theorem eqv_mD {m : Mn} : PyData.eqv (mD m) .none = false := by cases m <;> rfl
theorem w_ok : PyData.strOk "letter" = true ∧ PyData.strOk "none" = true ∧ PyData.strOk "below" = true ∧ PyData.strOk "layer" = true ∧ PyData.strOk "once" = true ∧ PyData.strOk "tap" = true := by decide +kernel
theorem lay_m {L nL : Int} {m : Mn} (h : VM L nL m) : PyData.canLay0 (mD m) = true := by
  obtain ⟨a1, a2, a3, a4, a5, a6⟩ := w_ok
  cases m with
  | letter c => show (PyData.strOk "letter" && (PyData.strOk (ltr c) && true)) = true; rw [a1, ltr_ok c h]; rfl
  | none => show (PyData.strOk "none" && true) = true; rw [a2]; rfl
  | below => show (PyData.strOk "below" && true) = true; rw [a3]; rfl
  | layer n => show (PyData.strOk "layer" && _) = true; rw [a4]; rfl
  | once n => show (PyData.strOk "once" && _) = true; rw [a5]; rfl
  | tap c n => show (PyData.strOk "tap" && (PyData.strOk (ltr c) && _)) = true; rw [a6, ltr_ok c h.1]; rfl
theorem lay_ms {L nL : Int} : ∀ l : List Mn, (∀ m ∈ l, VM L nL m) → PyData.canLayAll0 (l.map mD) = true
  | [], _ => rfl
  | m :: r, h => by
    show (PyData.canLay0 (mD m) && PyData.canLayAll0 (r.map mD)) = true
    rw [lay_m (h m List.mem_cons_self), lay_ms r fun x hx => h x (List.mem_cons_of_mem _ hx)]
    rfl
theorem ne_lc : neD (.str "layer") (.str "chord") = some (.fz (.bool true)) ∧ neD (.str "chord") (.str "layer") = some (.fz (.bool true)) ∧ neD (.str "layer") (.str "layer") = some (.fz (.bool false)) ∧ neD (.str "chord") (.str "chord") = some (.fz (.bool false)) :=
  ⟨neS_t (by decide +kernel) (by decide +kernel) (by decide +kernel), neS_t (by decide +kernel) (by decide +kernel) (by decide +kernel), neS_f (by decide +kernel), neS_f (by decide +kernel)⟩
theorem layer_read {l : List Mn} {L nL : Int} (h1 : 1 ≤ l.length) (h5 : l.length ≤ 5) (hv : ∀ m ∈ l, VM L nL m) (h3 : nL ≤ 3) : F_read_layer [.list ((("layer" : Str) :: l.map wS).map .str)] = .ok (.fz (lyD l)) := by
  have e1 : lenD [.list ((("layer" : Str) :: l.map wS).map .str)] = some (.fz (.int ((l.length : Int) + 1))) := by
    show some (RV.fz (.int (((("layer" : Str) :: l.map wS).map PyData.str).length : Int))) = _
    rw [List.length_map, List.length_cons, List.length_map]
    rfl
  have e2 : ltD (.int ((l.length : Int) + 1)) (.int 2) = some (.fz (.bool false)) := by
    show some (RV.fz (.bool (decide ((l.length : Int) + 1 < 2)))) = _
    rw [decide_eq_false (by omega)]
  have e3 : ixD (.list ((("layer" : Str) :: l.map wS).map .str)) (.int 0) = some (.fz (.str "layer")) := ixl0
  obtain ⟨_, _, e4, _⟩ := ne_lc
  have e5 : slD (.list ((("layer" : Str) :: l.map wS).map .str)) (some 1) none = some (.ow ((l.map wS).map .str)) := cut1
  have c1 := comp_mapv (f := fun m => .str (wS m)) (g := mD) (fe := pCal F_read_meaning 1 (aCons (pVar 0) aNil)) (cp := []) l (by omega) rfl fun m hm => by
    have e := meaning_read (hv m hm) h3
    exact ev_cal (rv := .fz (mD m)) (by walk_at "ev") rfl rfl e
  rw [show (l.map fun m => PyData.str (wS m)) = (l.map wS).map .str by rw [List.map_map]; rfl] at c1
  have a1 : F_all_read [.list (l.map mD)] = .ok (.fz (lyD l)) := all_read_ok (lay_ms l hv) fun d hd => by obtain ⟨m, _, rfl⟩ := List.mem_map.mp hd; exact eqv_mD
  refine go_val (ρ := [some (.fz (.list ((("layer" : Str) :: l.map wS).map .str)))]) rfl ?_
  unfold g_read_layer
  walk_at "go"
  · intro q; cases q
  intro _
  exact gs_next (go_ret (ev_cal (rv := .fz (lyD l)) (ev_cons (ev_comp (ev_iseq (d := .list ((l.map wS).map .str)) (by walk_at "ev") rfl rfl) rfl c1) ev_nil) rfl rfl a1) rfl rfl)
theorem layer_none {x y : Str} : F_read_layer [.list ([("chord" : Str), x, y].map .str)] = .ok (.fz .none) := by
  have e1 : lenD [.list ([("chord" : Str), x, y].map .str)] = some (.fz (.int 3)) := rfl
  have e2 : ltD (.int 3) (.int 2) = some (.fz (.bool false)) := rfl
  have e3 : ixD (.list ([("chord" : Str), x, y].map .str)) (.int 0) = some (.fz (.str "chord")) := ixl0
  obtain ⟨_, e4, _, _⟩ := ne_lc
  refine go_val (ρ := [some (.fz (.list ([("chord" : Str), x, y].map .str)))]) rfl ?_
  unfold g_read_layer
  walk_at "go"
  · intro _
    walk_at "go"
    rfl
  · intro q; cases q
theorem parted_read {c : List Nat} (h2 : 2 ≤ c.length) (h5 : c.length ≤ 5) (hk : ∀ k ∈ c, k < 10) : F_read_parted [.str (keyS c), .str "+"] = .ok (.fz (.tuple (nds c))) := by
  have kl := keyS_len h5
  have sp : splitS (keyS c) [.str "+"] = some (.ow ((c.map dgt).map .str)) := by
    rw [s_pl]
    exact splitS_ok (fun z => by have := congrArg List.length z; rw [List.length_map, List.length_nil] at this; omega) (fun w hw => by obtain ⟨k, _, rfl⟩ := List.mem_map.mp hw; exact fr_dgt (by decide)) (by unfold keyS at kl; omega) (by rw [List.length_map]; omega)
  have c1 := comp_mapv (f := fun k => .str (dgt k)) (g := nd) (fe := pCal F_read_number 1 (aCons (pVar 0) aNil)) (cp := []) c (by omega) rfl fun k h => by
    have e := number_ok (hk k h)
    exact ev_cal (rv := .fz (nd k)) (by walk_at "ev") rfl rfl e
  rw [show (c.map fun k => PyData.str (dgt k)) = (c.map dgt).map .str by rw [List.map_map]; rfl] at c1
  have a1 : F_all_read [.list (nds c)] = .ok (.fz (.tuple (nds c))) := all_read_ok (lay_nds c) fun d hd => by obtain ⟨k, _, rfl⟩ := List.mem_map.mp hd; rfl
  refine go_val (ρ := [some (.fz (.str (keyS c))), some (.fz (.str "+"))]) rfl ?_
  unfold g_read_parted
  exact go_ret (ev_cal (rv := .fz (.tuple (nds c))) (ev_cons (ev_comp (ev_iseq (d := .list ((c.map dgt).map .str)) (ev_ms (rv := .ow ((c.map dgt).map .str)) (by walk_at "ev") rfl (by walk_at "ev") rfl sp) rfl rfl) rfl c1) ev_nil) rfl rfl a1) rfl rfl
theorem chord_read {c : List Nat × Nat} (h2 : 2 ≤ c.1.length) (h5 : c.1.length ≤ 5) (hk : ∀ k ∈ c.1, k < 10) (hc : c.2 < 26) : F_read_chord [.list ([("chord" : Str), keyS c.1, ltr c.2].map .str)] = .ok (.fz (chD c)) := by
  have e1 : lenD [.list ([("chord" : Str), keyS c.1, ltr c.2].map .str)] = some (.fz (.int 3)) := rfl
  have e2 : neD (.int 3) (.int 3) = some (.fz (.bool false)) := rfl
  have e3 : ixD (.list ([("chord" : Str), keyS c.1, ltr c.2].map .str)) (.int 0) = some (.fz (.str "chord")) := ixl0
  have e5 : ixD (.list ([("chord" : Str), keyS c.1, ltr c.2].map .str)) (.int 1) = some (.fz (.str (keyS c.1))) := ixl1
  have e6 : ixD (.list ([("chord" : Str), keyS c.1, ltr c.2].map .str)) (.int 2) = some (.fz (.str (ltr c.2))) := ixLi (by decide) rfl
  obtain ⟨_, _, _, e4⟩ := ne_lc
  have el := is_letter_ok hc
  have pr := parted_read h2 h5 hk
  have e7 : isnD (.tuple (nds c.1)) .none = some (.fz (.bool false)) := rfl
  refine go_val (ρ := [some (.fz (.list ([("chord" : Str), keyS c.1, ltr c.2].map .str))), none]) rfl ?_
  unfold g_read_chord
  walk_at "go"
  · intro q; cases q
  intro _
  walk_at "go"
  · intro q; cases q
  intro _
  walk_at "go"
  rfl
theorem chord_none {l : List Mn} (h5 : l.length ≤ 5) : F_read_chord [.list ((("layer" : Str) :: l.map wS).map .str)] = .ok (.fz .none) := by
  have e1 : lenD [.list ((("layer" : Str) :: l.map wS).map .str)] = some (.fz (.int ((l.length : Int) + 1))) := by
    show some (RV.fz (.int (((("layer" : Str) :: l.map wS).map PyData.str).length : Int))) = _
    rw [List.length_map, List.length_cons, List.length_map]
    rfl
  have e2 := neD_int ((l.length : Int) + 1) 3
  have e3 : ixD (.list ((("layer" : Str) :: l.map wS).map .str)) (.int 0) = some (.fz (.str "layer")) := ixl0
  obtain ⟨e4, _, _, _⟩ := ne_lc
  refine go_val (ρ := [some (.fz (.list ((("layer" : Str) :: l.map wS).map .str))), none]) rfl ?_
  unfold g_read_chord
  refine gs_if (b := !decide ((l.length : Int) + 1 = 3) || true) (ev_qor (by walk_at "ev") fun _ => ev_qor (a := true) (b := true) (by walk_at "ev") fun z => by cases z) (fun _ => ?_) fun z => by rw [Bool.or_true] at z; cases z
  walk_at "go"
  rfl
end
section
variable {b : Bd}
theorem ev_ienum1 {fr : FA} {es : List D} {ρ ρ1 ρ2 : PEnv} {ps : List PV} {d : D} (ha : fr ρ = .ok (ps, ρ1)) (hd : toDs ρ1 ps = some ([d], ρ2)) (hs : asSeq d = some es) : iEnum1 fr ρ = .ok (enumFrom 1 es, ρ2) := by
  unfold iEnum1
  rw [ha, Res.bind_ok, hd, ofO_some, Res.bind_ok]
  dsimp only
  rw [hs, ofO_some, Res.bind_ok]
theorem sp_rows (h : VB b) : splitS (textB b) [.str "\n"] = some (.ow ((rowK b.n.toNat b.wt.toNat :: restB b).map .str)) := by
  rw [s_nl]
  have h1 := rest_len h
  have h2 := join_len (d := 10) (rows_len h)
  rw [List.length_cons] at h2
  exact splitS_ok (by intro z; cases z) (fr_rows h) (by omega) (by rw [List.length_cons]; omega)
theorem sp_K {n w : Nat} (hn : n < 10) (hw : w < 10) : splitS (rowK n w) [.str " "] = some (.ow ([("keys" : Str), dgt n, "wait", dgt w].map .str)) := by
  rw [s_sp]
  have := rowK_len n hn w hw
  exact splitS_ok (by intro z; cases z) (fr_K (.inl rfl)) (by unfold rowK at this; omega) (by show 4 ≤ 1000000; decide)
theorem sp_L {l : List Mn} {L nL : Int} (h5 : l.length ≤ 5) (hv : ∀ m ∈ l, VM L nL m) : splitS (rowL l) [.str " "] = some (.ow ((("layer" : Str) :: l.map wS).map .str)) := by
  rw [s_sp]
  have := rowL_len h5
  exact splitS_ok (by intro z; cases z) (fr_L hv (.inl rfl)) (by unfold rowL at this; omega) (by rw [List.length_cons, List.length_map]; omega)
theorem sp_C {c : List Nat × Nat} (h5 : c.1.length ≤ 5) : splitS (rowC c) [.str " "] = some (.ow ([("chord" : Str), keyS c.1, ltr c.2].map .str)) := by
  rw [s_sp]
  have := rowC_len h5
  exact splitS_ok (by intro z; cases z) (fr_C (.inl rfl)) (by unfold rowC at this; omega) (by show 3 ≤ 1000000; decide)
theorem read_back (h : VB b) : F_read_bed [.str (textB b)] = .ok (.fz (bD b)) := by
  have n1 := h.n1
  have n5 := h.n5
  have w1 := h.w1
  have w4 := h.w4
  have l3 := h.l3
  have c4 := h.c4
  have s1 := sp_rows h
  have s2 := sp_K (n := b.n.toNat) (w := b.wt.toNat) (by omega) (by omega)
  have r1 : F_read_numbers [.list ([("keys" : Str), dgt b.n.toNat, "wait", dgt b.wt.toNat].map .str)] = _ := numbers_read (n := b.n.toNat) (w := b.wt.toNat) (by omega) (by omega)
  have i1 : ixD (.list ((rowK b.n.toNat b.wt.toNat :: restB b).map .str)) (.int 0) = some (.fz (.str (rowK b.n.toNat b.wt.toNat))) := ixl0
  have sl : slD (.list ((rowK b.n.toNat b.wt.toNat :: restB b).map .str)) (some 1) none = some (.ow ((restB b).map .str)) := cut1
  have e0 : isnD (.tuple [nd b.n.toNat, nd b.wt.toNat]) .none = some (.fz (.bool false)) := rfl
  have i2 : ixD (.tuple [nd b.n.toNat, nd b.wt.toNat]) (.int 0) = some (.fz (nd b.n.toNat)) := ixt0
  have i3 : ixD (.tuple [nd b.n.toNat, nd b.wt.toNat]) (.int 1) = some (.fz (nd b.wt.toNat)) := ixt1
  have en : nd b.n.toNat = .int b.n := by show PyData.int _ = _; rw [Int.toNat_of_nonneg (by omega)]
  have ew : nd b.wt.toNat = .int b.wt := by show PyData.int _ = _; rw [Int.toNat_of_nonneg (by omega)]
  have k1 : F_checked [.tuple [nd b.n.toNat, .tuple (b.ls.map lyD), .tuple (b.cs.map chD), nd b.wt.toNat]] = .ok (.fz (bD b)) := by rw [en, ew]; exact checked_ok h
  have rl : (restB b).length = b.ls.length + b.cs.length := by unfold restB; rw [List.length_append, List.length_map, List.length_map]
  refine go_val (ρ := [some (.fz (.str (textB b))), none, none, none, none, none, none, none, none, none]) rfl ?_
  unfold g_read_bed
  refine gs_asg (ev_ms (rv := .ow _) (by walk_at "ev") rfl (by walk_at "ev") rfl s1) rfl (by walk_at "nm") ?_
  refine gs_asg (ev_cal (rv := .fz (.tuple [nd b.n.toNat, nd b.wt.toNat])) (ev_cons (ev_ms (rv := .ow _) (by walk_at "ev") rfl (by walk_at "ev") rfl s2) ev_nil) rfl rfl r1) rfl (by walk_at "nm") ?_
  walk_at "go"
  · intro q; cases q
  intro _
  walk_at "go"
  with_reducible apply gs_for (fun i ρ => ∃ t5 t6 t7 t8 t9 : Option PV, ρ = [some (.fz (.str (textB b))), some (.ow ((rowK b.n.toNat b.wt.toNat :: restB b).map .str)), some (.fz (.tuple [nd b.n.toNat, nd b.wt.toNat])), some (.ow ((b.ls.take i).map lyD)), some (.ow ((b.cs.take (i - b.ls.length)).map chD)), t5, t6, t7, t8, t9])
  · exact ev_ienum1 (d := .list ((restB b).map .str)) (by walk_at "ev") rfl rfl
  · exact ⟨none, none, none, none, none, by rw [Nat.zero_sub]; rfl⟩
  · rintro i d ρ hi ⟨t5, t6, t7, t8, t9, rfl⟩
    rw [enumFrom_get, List.getElem?_map] at hi
    cases q : (restB b)[i]? with
    | none => rw [q] at hi; cases hi
    | some r =>
      obtain rfl : d = .tuple [.int ((1 + i : Nat) : Int), .str r] := by rw [q] at hi; exact (Option.some.inj hi).symm
      by_cases hil : i < b.ls.length
      · have q1 : (b.ls.map rowL)[i]? = some r := by
          unfold restB at q
          rwa [List.getElem?_append_left (by rw [List.length_map]; exact hil)] at q
        rw [List.getElem?_map] at q1
        cases q2 : b.ls[i]? with
        | none => rw [q2] at q1; cases q1
        | some l =>
          obtain rfl : r = rowL l := by rw [q2] at q1; exact (Option.some.inj q1).symm
          obtain ⟨hl1, hl5, j, hv⟩ := lay_len h (List.mem_of_getElem? q2)
          have s3 := sp_L hl5 hv
          have r2 := layer_read hl1 hl5 hv (by omega)
          have r3 := chord_none (l := l) hl5
          have e3 : ntnD (lyD l) .none = some (.fz (.bool true)) := rfl
          have e4 : eqD (.list []) (.list []) = some (.fz (.bool true)) := rfl
          have hlen : ((b.ls.take i).map lyD).length < 1000000 := by rw [List.length_map, List.length_take]; omega
          rw [show i - b.ls.length = 0 by omega, List.take_zero, List.map_nil]
          refine ⟨_, rfl, ?_⟩
          refine gs_asg (ev_ms (rv := .ow _) (by walk_at "ev") rfl (by walk_at "ev") rfl s3) rfl (by walk_at "nm") ?_
          refine gs_asg (ev_cal (rv := .fz (lyD l)) (by walk_at "ev") rfl rfl r2) rfl (by walk_at "nm") ?_
          refine gs_asg (ev_cal (rv := .fz .none) (by walk_at "ev") rfl rfl r3) rfl (by walk_at "nm") ?_
          refine go_if (b := true && true) (by walk_at "ev") (fun _ => go_drop (pv := .fz .none) (ev_app rfl (by walk_at "ev") rfl rfl hlen rfl) ⟨some (.fz (.int ((1 + i : Nat) : Int))), some (.fz (.str (rowL l))), some (.fz (.list ((("layer" : Str) :: l.map wS).map .str))), some (.fz (lyD l)), some (.fz .none), ?_⟩) fun z => by cases z
          rw [List.take_add_one, q2, show i + 1 - b.ls.length = 0 by omega]
          simp only [Option.toList_some, List.map_append, List.map_cons, List.map_nil]
          rfl
      · have q1 : (b.cs.map rowC)[i - b.ls.length]? = some r := by
          unfold restB at q
          rwa [List.getElem?_append_right (by rw [List.length_map]; omega), List.length_map] at q
        rw [List.getElem?_map] at q1
        cases q2 : b.cs[i - b.ls.length]? with
        | none => rw [q2] at q1; cases q1
        | some c =>
          obtain rfl : r = rowC c := by rw [q2] at q1; exact (Option.some.inj q1).symm
          obtain ⟨hc2, hc5, hk, hc26⟩ := ch_len h (List.mem_of_getElem? q2)
          have s3 := sp_C hc5
          have r2 := layer_none (x := keyS c.1) (y := ltr c.2)
          have r3 := chord_read hc2 hc5 hk hc26
          have e3 : ntnD .none .none = some (.fz (.bool false)) := rfl
          have e4 : ntnD (chD c) .none = some (.fz (.bool true)) := rfl
          have hlen : ((b.cs.take (i - b.ls.length)).map chD).length < 1000000 := by rw [List.length_map, List.length_take]; omega
          refine ⟨_, rfl, ?_⟩
          refine gs_asg (ev_ms (rv := .ow _) (by walk_at "ev") rfl (by walk_at "ev") rfl s3) rfl (by walk_at "nm") ?_
          refine gs_asg (ev_cal (rv := .fz .none) (by walk_at "ev") rfl rfl r2) rfl (by walk_at "nm") ?_
          refine gs_asg (ev_cal (rv := .fz (chD c)) (by walk_at "ev") rfl rfl r3) rfl (by walk_at "nm") ?_
          refine go_if (b := false) (ev_qand (a := false) (b := false) (by walk_at "ev") fun z => by cases z) (fun z => by cases z) fun _ => ?_
          refine go_if (b := true) (by walk_at "ev") (fun _ => go_drop (pv := .fz .none) (ev_app rfl (by walk_at "ev") rfl rfl hlen rfl) ⟨some (.fz (.int ((1 + i : Nat) : Int))), some (.fz (.str (rowC c))), some (.fz (.list ([("chord" : Str), keyS c.1, ltr c.2].map .str))), some (.fz .none), some (.fz (chD c)), ?_⟩) fun z => by cases z
          rw [show i + 1 - b.ls.length = i - b.ls.length + 1 by omega, List.take_of_length_le (show b.ls.length ≤ i + 1 by omega), List.take_add_one, q2, List.take_of_length_le (show b.ls.length ≤ i by omega)]
          simp only [Option.toList_some, List.map_append, List.map_cons, List.map_nil]
          rfl
  · rintro ρ ⟨t5, t6, t7, t8, t9, rfl⟩
    rw [enumFrom_len, List.length_map, rl, List.take_of_length_le (by omega), List.take_of_length_le (by omega)]
    walk_at "go"
    rfl
end
section
variable {b : Bd}
theorem okS_of {s : Str} (h : ∀ x : Nat, 0x110000 ≤ x → Fr x s) : PyData.strOk s = true := by
  show s.cps.all (fun x => decide (x < 0x110000)) = true
  rw [Array.all_eq_true_iff_forall_mem]
  intro x hx
  refine decide_eq_true (Nat.lt_of_not_le fun z => h x z ?_)
  exact Array.mem_toList_iff.mpr hx
theorem fr_okS {s : Str} (h : PyData.strOk s = true) {x : Nat} (hx : 0x110000 ≤ x) : Fr x s := by
  intro z
  have h : s.cps.all (fun x => decide (x < 0x110000)) = true := h
  rw [Array.all_eq_true_iff_forall_mem] at h
  have := of_decide_eq_true (h x (Array.mem_toList_iff.mp z))
  omega
theorem wS_ok {L nL : Int} {m : Mn} (h : VM L nL m) (h3 : nL ≤ 3) {x : Nat} (hx : 0x110000 ≤ x) : Fr x (wS m) := by
  unfold Fr
  cases m with
  | letter c => intro z; have hc : c < 26 := h; have := List.mem_singleton.mp (show x ∈ [97 + c] from z); omega
  | none => intro z; have := List.mem_singleton.mp (show x ∈ [46] from z); omega
  | below => intro z; have := List.mem_singleton.mp (show x ∈ [95] from z); omega
  | layer n => intro z; have hn : 1 ≤ n ∧ n < nL := h; have z : x ∈ [62, 48 + n.toNat] := z; simp only [List.mem_cons, List.not_mem_nil, or_false] at z; omega
  | once n => intro z; have hn : 1 ≤ n ∧ n < nL := h; have z : x ∈ [126, 48 + n.toNat] := z; simp only [List.mem_cons, List.not_mem_nil, or_false] at z; omega
  | tap c n => intro z; have hc : c < 26 := h.1; have hn : 1 ≤ n ∧ n < nL := h.2; have z : x ∈ [97 + c, 62, 48 + n.toNat] := z; simp only [List.mem_cons, List.not_mem_nil, or_false] at z; omega
theorem frd {k x : Nat} (hk : k < 10) (hx : 0x110000 ≤ x) : Fr x (dgt k) := by
  intro z
  have := List.mem_singleton.mp (show x ∈ [48 + k] from z)
  omega
theorem frl {c x : Nat} (hk : c < 26) (hx : 0x110000 ≤ x) : Fr x (ltr c) := by
  intro z
  have := List.mem_singleton.mp (show x ∈ [97 + c] from z)
  omega
theorem ws_ok : PyData.strOk "keys" = true ∧ PyData.strOk "wait" = true ∧ PyData.strOk "chord" = true := by decide +kernel
theorem text_str (h : VB b) : PyData.strOk (textB b) = true := by
  have n5 := h.n5
  have w4 := h.w4
  have l3 := h.l3
  obtain ⟨o1, o2, o3⟩ := ws_ok
  refine okS_of fun x hx => fr_join (by omega) (in_cons_len (fr_join (by omega) ?_) fun r hr => ?_)
  · exact in_cons_len (fr_okS o1 hx) (in_cons_len (frd (by omega) hx) (in_cons_len (fr_okS o2 hx) (in_cons_len (frd (by omega) hx) none_in)))
  · rcases List.mem_append.mp hr with z | z
    · obtain ⟨l, hl, rfl⟩ := List.mem_map.mp z
      obtain ⟨_, _, i, hv⟩ := lay_len h hl
      refine fr_join (by omega) (in_cons_len (fr_okS w_ok.2.2.2.1 hx) fun s hs => ?_)
      obtain ⟨m, hm, rfl⟩ := List.mem_map.mp hs
      exact wS_ok (hv m hm) (by omega) hx
    · obtain ⟨c, hc, rfl⟩ := List.mem_map.mp z
      obtain ⟨_, _, hk, hc26⟩ := ch_len h hc
      refine fr_join (by omega) (in_cons_len (fr_okS o3 hx) (in_cons_len (fr_join (by omega) fun s hs => ?_) (in_cons_len (frl hc26 hx) none_in)))
      obtain ⟨k, hk2, rfl⟩ := List.mem_map.mp hs
      exact frd (hk k hk2) hx
theorem back_ok (h : VB b) : F__law_there_and_back [bD b] = .ok (.fz (.bool true)) := by
  have e1 := text_ok h
  have e2 := shown_ok h
  have e3 := read_back h
  have e4 : neD (.str (textB b)) (.str (textB b)) = some (.fz (.bool false)) := neS_f (text_str h)
  have j1 : F__law_like_6 [bD b, bD b] = .ok (.fz (.bool true)) := like_ok 6 _ (lk_bed h)
  refine go_val (ρ := [some (.fz (bD b)), none, none]) rfl ?_
  unfold g__law_there_and_back
  walk_at "go"
  · intro q; cases q
  intro _
  walk_at "go"
  rfl
end
theorem main (ns : List Int) (hns : ns.length ≤ 63) : F_law [.list (ns.map .int)] = .ok (.fz (.bool true)) := by
  obtain ⟨b, hb, eb⟩ := bed_ok ns hns 0 (by decide) (by decide)
  obtain ⟨c, hc, ec⟩ := bed_ok ns hns 22 (by decide) (by decide)
  have k1 := back_ok hb
  have k2 := back_ok hc
  refine go_val (ρ := [some (.fz (.list (ns.map .int))), none, none]) rfl ?_
  unfold g_law
  walk_at "go"
  · intro q; cases q
  intro _
  walk_at "go"
  rfl
noncomputable def top (i : Nat) : Stmt := PySem.Challenge.pw_chordbed_k23_beds_written.main.body.getD i (.Pass ⟨0, 0, 0, 0⟩)
noncomputable def fb : Stmt → List Stmt
  | .For _ _ b _ _ => b
  | .If _ b _ _ => b
  | _ => []
noncomputable def av : Stmt → Expr
  | .Assign _ v _ => v
  | _ => .Name "" ⟨0, 0, 0, 0⟩
noncomputable def ss : Expr → Expr
  | .Subscript _ v _ => v
  | e => e
noncomputable def sP : Expr → Pos
  | .Subscript _ _ p => p
  | _ => ⟨0, 0, 0, 0⟩
noncomputable def lp : Expr → Pos
  | .List _ p => p
  | _ => ⟨0, 0, 0, 0⟩
noncomputable def iT : Stmt → Expr
  | .If c _ _ _ => c
  | _ => .Name "" ⟨0, 0, 0, 0⟩
noncomputable def iP : Stmt → Pos
  | .If _ _ _ p => p
  | _ => ⟨0, 0, 0, 0⟩
noncomputable def aP : Stmt → Pos
  | .Assign _ _ p => p
  | _ => ⟨0, 0, 0, 0⟩
noncomputable def nP : Stmt → Pos
  | .Assign [.Name _ p] _ _ => p
  | _ => ⟨0, 0, 0, 0⟩
noncomputable def sv : Expr → Expr
  | .Subscript v _ _ => v
  | e => e
noncomputable def le : Expr → List Expr
  | .List l _ => l
  | _ => []
noncomputable def rvE : Stmt → Expr
  | .Return (some e) _ => e
  | _ => .Name "" ⟨0, 0, 0, 0⟩
noncomputable def rP : Stmt → Pos
  | .Return _ p => p
  | _ => ⟨0, 0, 0, 0⟩
noncomputable def bl : Expr → Expr
  | .BinOp a _ _ _ => a
  | e => e
noncomputable def br : Expr → Expr
  | .BinOp _ _ b _ => b
  | e => e
noncomputable def bP : Expr → Pos
  | .BinOp _ _ _ p => p
  | _ => ⟨0, 0, 0, 0⟩
noncomputable def dK : Expr → List (Option Expr)
  | .Dict k _ _ => k
  | _ => []
noncomputable def dV : Expr → List Expr
  | .Dict _ v _ => v
  | _ => []
noncomputable def dP : Expr → Pos
  | .Dict _ _ p => p
  | _ => ⟨0, 0, 0, 0⟩
noncomputable def DP : Stmt := .Pass ⟨0, 0, 0, 0⟩
noncomputable def DE : Expr := .Name "" ⟨0, 0, 0, 0⟩
section
variable {P : Program} {w : World} {K : PySem.W.Frag} {mg : Str → Option Value} {base : Heap} {f : Addr} {fd : FuncData}
theorem sc__law_cell : FnScope ["_law_script", "_law_k"] ["_law_script", "_law_k"] (defScope (top 31)) := ⟨rfl, rfl, rfl, by decide +kernel, rfl, by decide +kernel, by decide +kernel⟩
theorem ok__law_cell (F : Fun K "_law_cell" "_law_cell" (top 31) f fd) : FnOk P w K mg base CX0 1 f fd ["_law_script", "_law_k"] (spP K 2 F__law_cell) := by
  refine okF (k := 0) (n := 2) (m := 2) (g := g__law_cell) (FF := F__law_cell) F sc__law_cell rfl rfl rfl (fun cdv A outer s H E hr => ?_)
  have hu := hr.units
  have hv : (A.deeper (PyProof.Rows.envOfC "_law_cell" (defScope (top 31)) s.heap.objs.size f cdv)).units + 65 < cLine := by have := hr.un; omega
  exact ⟨_, (pss_one (ps_ret (pe_ix ix_seq (pe_op op_addA (pe_slice sl_any (pv 0) (po_some (pv 1)) (po_some (pe_op op_addA (pv 1) pe_int))) (pe_lst (pa_cons pe_int pa_nil))) pe_int (fun _ _ => rfl)))), (so_ret (eo_op opp_ix (eo_op opp_add (eo_sl slp_any eo_var (too_some eo_var) (too_some (eo_op opp_add eo_var eo_int))) (eo_lst (ao_cons eo_int ao_nil))) eo_int))⟩
theorem sc__law_stirred : FnScope ["_law_cell_here", "_law_salt", "_law_number"] ["_law_cell_here", "_law_salt"] (defScope (top 32)) := ⟨rfl, rfl, rfl, by decide +kernel, rfl, by decide +kernel, by decide +kernel⟩
theorem ok__law_stirred (F : Fun K "_law_stirred" "_law_stirred" (top 32) f fd) : FnOk P w K mg base CX0 1 f fd ["_law_cell_here", "_law_salt"] (spP K 2 F__law_stirred) := by
  refine okF (k := 0) (n := 2) (m := 3) (g := g__law_stirred) (FF := F__law_stirred) F sc__law_stirred rfl rfl rfl (fun cdv A outer s H E hr => ?_)
  have hu := hr.units
  have hv : (A.deeper (PyProof.Rows.envOfC "_law_stirred" (defScope (top 32)) s.heap.objs.size f cdv)).units + 65 < cLine := by have := hr.un; omega
  exact ⟨_, (pss_cons (ps_set (i := 2) sc__law_stirred.nd rfl (Or.inl rfl) (pe_op op_addA (pe_op op_mod (pv 0) pe_int) (pe_op op_mulB pe_int (pv 1))))
      (pss_cons (ps_set (i := 2) sc__law_stirred.nd rfl (Or.inl rfl) (pe_op op_mod (pe_op op_addA (pe_op op_addA (pe_op op_mulB (pv 2) (pe_op op_addA (pe_op op_addA (pv 2) (pe_op op_mulB (pv 1) (pv 1))) pe_int)) (pe_op op_mulB pe_int (pv 1))) pe_int) pe_int))
      (pss_one (ps_ret (pe_op op_fdivL (pe_op op_mod (pe_op op_addA (pe_op op_mulB (pv 2) (pe_op op_addA (pe_op op_fdivL (pv 2) pe_int) pe_int)) pe_int) pe_int) pe_int))))), (so_seq (so_asg (eo_op opp_add (eo_op opp_mod eo_var eo_int) (eo_op opp_mulE eo_int eo_var)) go_name)
      (so_seq (so_asg (eo_op opp_mod (eo_op opp_add (eo_op opp_add (eo_op opp_mulE eo_var (eo_op opp_add (eo_op opp_add eo_var (eo_op opp_mulE eo_var eo_var)) eo_int)) (eo_op opp_mulE eo_int eo_var)) eo_int) eo_int) go_name)
      (so_ret (eo_op opp_div (eo_op opp_mod (eo_op opp_add (eo_op opp_mulE eo_var (eo_op opp_add (eo_op opp_div eo_var eo_int) eo_int)) eo_int) eo_int) eo_int))))⟩
theorem sc__law_stream : FnScope ["_law_cell_here", "_law_many", "_law_found", "_law_left", "_law_k", "_law_x", "_law_j"] ["_law_cell_here", "_law_many"] (defScope (top 34)) := ⟨rfl, rfl, rfl, by decide +kernel, rfl, by decide +kernel, by decide +kernel⟩
theorem ok__law_stream (F : Fun K "_law_stream" "_law_stream" (top 34) f fd) (c__law_stirred : CalP P w K mg base 1 "_law_stirred" ["_law_cell_here", "_law_salt"] 2 F__law_stirred) (z_max : mg "max" = none) (z_range : mg "range" = none) : FnOk P w K mg base CX0 2 f fd ["_law_cell_here", "_law_many"] (spP K 2 F__law_stream) := by
  refine okF (k := 1) (n := 2) (m := 7) (g := g__law_stream) (FF := F__law_stream) F sc__law_stream rfl rfl rfl (fun cdv A outer s H E hr => ?_)
  have hu := hr.units
  have hv : (A.deeper (PyProof.Rows.envOfC "_law_stream" (defScope (top 34)) s.heap.objs.size f cdv)).units + 65 < cLine := by have := hr.un; omega
  exact ⟨_, (pss_cons (ps_set (i := 2) sc__law_stream.nd rfl (Or.inl rfl) (pe_lst pa_nil))
      (pss_cons (ps_set (i := 3) sc__law_stream.nd rfl (Or.inl rfl) (pe_callB (call_max2 rfl) rfl z_max b_max (pa_cons (pv 0) (pa_cons (pe_op op_sub pe_int (pv 0)) pa_nil))))
      (pss_cons (ps_for PassesOwn.never rfl (pi_range1 rfl z_range (pa_cons (pv 1) pa_nil)) (pg_name (i := 4) sc__law_stream.nd rfl (Or.inl rfl)) (pss_cons (ps_set (i := 5) sc__law_stream.nd rfl (Or.inl rfl) pe_int)
      (pss_cons (ps_for PassesOwn.never rfl (pi_range1 rfl z_range (pa_cons pe_int pa_nil)) (pg_name (i := 6) sc__law_stream.nd rfl (Or.inl rfl)) (pss_one (ps_set (i := 5) sc__law_stream.nd rfl (Or.inl rfl) (pe_op op_addA (pe_op op_mulB (pv 5) (pe_op op_pow pe_int pe_int)) (pe_op op_mod (pe_cal c__law_stirred hr (pa_cons (pv 0) (pa_cons (pe_op op_addA (pe_op op_mulB pe_int (pv 4)) (pv 6)) pa_nil))) (pe_op op_pow pe_int pe_int))))))
      (pss_cons (ps_if (PW.pt (pw_and (pt_cmpR op_gt (pv 3) pe_int (nomark _)) (pw_and1 (PW.pt (pw_or (pt_cmpR op_lt (pv 0) pe_int (nomark _)) (pw_or1 (pt_cmpR op_ge (pv 0) (pe_op op_pow pe_int pe_int) (nomark _)))))))) (pss_cons (ps_set (i := 5) sc__law_stream.nd rfl (Or.inl rfl) (pe_op op_mod (pv 3) (pe_op op_pow pe_int pe_int)))
      (pss_one (ps_set (i := 3) sc__law_stream.nd rfl (Or.inl rfl) (pe_op op_fdivL (pv 3) (pe_op op_pow pe_int pe_int))))) pss_nil)
      (pss_one (ps_expr (pe_bm PySem.F.plainAttrs_list PySem.F.slot_list_append PySem.F.type_list_append mt_append (pv 2) (pa_cons (pv 5) pa_nil))))))))
      (pss_one (ps_ret (pv 2)))))), (so_seq (so_asg (eo_lst ao_nil) go_name)
      (so_seq (so_asg (eo_cb cb_max2 (ao_cons eo_var (ao_cons (eo_op opp_sub eo_int eo_var) ao_nil))) go_name)
      (so_seq (so_for (io_rng1 (ao_cons eo_var ao_nil)) go_name (so_seq (so_asg eo_int go_name)
      (so_seq (so_for (io_rng1 (ao_cons eo_int ao_nil)) go_name (so_asg (eo_op opp_add (eo_op opp_mulE eo_var (eo_op opp_pow eo_int eo_int)) (eo_op opp_mod (eo_cal (ao_cons eo_var (ao_cons (eo_op opp_add (eo_op opp_mulE eo_int eo_var) eo_var) ao_nil))) (eo_op opp_pow eo_int eo_int))) go_name))
      (so_seq (so_if (tto_and (tto_test (eo_op opp_gt eo_var eo_int)) (tto_or (tto_test (eo_op opp_lt eo_var eo_int)) (tto_test (eo_op opp_ge eo_var (eo_op opp_pow eo_int eo_int))))) (so_seq (so_asg (eo_op opp_mod eo_var (eo_op opp_pow eo_int eo_int)) go_name)
      (so_asg (eo_op opp_div eo_var (eo_op opp_pow eo_int eo_int)) go_name)) so_next)
      (so_drop (eo_app eo_var))))))
      (so_ret eo_var))))⟩
theorem sc__law_letter : FnScope ["_law_cell_here"] ["_law_cell_here"] (defScope (top 36)) := ⟨rfl, rfl, rfl, by decide +kernel, rfl, by decide +kernel, by decide +kernel⟩
theorem ok__law_letter (F : Fun K "_law_letter" "_law_letter" (top 36) f fd) : FnOk P w K mg base CX0 1 f fd ["_law_cell_here"] (spP K 1 F__law_letter) := by
  refine okF (k := 0) (n := 1) (m := 1) (g := g__law_letter) (FF := F__law_letter) F sc__law_letter rfl rfl rfl (fun cdv A outer s H E hr => ?_)
  have hu := hr.units
  have hv : (A.deeper (PyProof.Rows.envOfC "_law_letter" (defScope (top 36)) s.heap.objs.size f cdv)).units + 65 < cLine := by have := hr.un; omega
  exact ⟨_, (pss_one (ps_ret (pe_ix ix_seq pe_str (pe_op op_mod (pv 0) pe_int) (fun _ _ => rfl)))), (so_ret (eo_op opp_ixS eo_str (eo_op opp_mod eo_var eo_int)))⟩
theorem sc__law_meaning_of : FnScope ["_law_rest", "_law_layer", "_law_layers", "_law_sort", "_law_sign", "_law_there", "_law_found"] ["_law_rest", "_law_layer", "_law_layers"] (defScope (top 38)) := ⟨rfl, rfl, rfl, by decide +kernel, rfl, by decide +kernel, by decide +kernel⟩
theorem ok__law_meaning_of (F : Fun K "_law_meaning_of" "_law_meaning_of" (top 38) f fd) (c__law_letter : CalP P w K mg base 1 "_law_letter" ["_law_cell_here"] 1 F__law_letter) (z_max : mg "max" = none) : FnOk P w K mg base CX0 2 f fd ["_law_rest", "_law_layer", "_law_layers"] (spP K 3 F__law_meaning_of) := by
  refine okF (k := 1) (n := 3) (m := 7) (g := g__law_meaning_of) (FF := F__law_meaning_of) F sc__law_meaning_of rfl rfl rfl (fun cdv A outer s H E hr => ?_)
  have hu := hr.units
  have hv : (A.deeper (PyProof.Rows.envOfC "_law_meaning_of" (defScope (top 38)) s.heap.objs.size f cdv)).units + 65 < cLine := by have := hr.un; omega
  exact ⟨_, (pss_cons (ps_set (i := 3) sc__law_meaning_of.nd rfl (Or.inl rfl) (pe_op op_mod (pv 0) pe_int))
      (pss_cons (ps_set (i := 4) sc__law_meaning_of.nd rfl (Or.inl rfl) (pe_cal c__law_letter hr (pa_cons (pe_op op_fdivL (pv 0) pe_int) pa_nil)))
      (pss_cons (ps_set (i := 5) sc__law_meaning_of.nd rfl (Or.inl rfl) (pe_op op_addA pe_int (pe_op op_mod (pe_op op_fdivL (pv 0) pe_int) (pe_callB (call_max2 rfl) rfl z_max b_max (pa_cons pe_int (pa_cons (pe_op op_sub (pv 2) pe_int) pa_nil))))))
      (pss_cons (ps_set (i := 6) sc__law_meaning_of.nd rfl (Or.inl rfl) (pe_tup (pa_cons pe_str (pa_cons (pv 4) pa_nil))))
      (pss_cons (ps_if (PW.pt (pw_or (pt_cmpR (op_eqD hu) (pv 3) pe_int (nomark _)) (pw_or1 (PW.pt (pw_and (pt_cmpR (op_eqD hu) (pv 3) pe_int (nomark _)) (pw_and1 (pt_cmpR (op_eqD hu) (pv 1) pe_int (nomark _)))))))) (pss_one (ps_set (i := 6) sc__law_meaning_of.nd rfl (Or.inl rfl) (pe_tup (pa_cons pe_str pa_nil)))) (pss_one (ps_if (pt_cmpR (op_eqD hu) (pv 3) pe_int (nomark _)) (pss_one (ps_set (i := 6) sc__law_meaning_of.nd rfl (Or.inl rfl) (pe_tup (pa_cons pe_str pa_nil)))) (pss_one (ps_if (PW.pt (pw_and (pt_cmpR op_gt (pv 3) pe_int (nomark _)) (pw_and1 (pt_cmpR op_gt (pv 2) pe_int (nomark _))))) (pss_one (ps_set (i := 6) sc__law_meaning_of.nd rfl (Or.inl rfl) (pe_ix ix_seq (pe_lst (pa_cons (pe_tup (pa_cons pe_str (pa_cons (pv 5) pa_nil))) (pa_cons (pe_tup (pa_cons pe_str (pa_cons (pv 4) (pa_cons (pv 5) pa_nil)))) (pa_cons (pe_tup (pa_cons pe_str (pa_cons (pv 5) pa_nil))) pa_nil)))) (pe_op op_sub (pv 3) pe_int) (fun _ _ => rfl)))) pss_nil)))))
      (pss_one (ps_ret (pv 6)))))))), (so_seq (so_asg (eo_op opp_mod eo_var eo_int) go_name)
      (so_seq (so_asg (eo_cal (ao_cons (eo_op opp_div eo_var eo_int) ao_nil)) go_name)
      (so_seq (so_asg (eo_op opp_add eo_int (eo_op opp_mod (eo_op opp_div eo_var eo_int) (eo_cb cb_max2 (ao_cons eo_int (ao_cons (eo_op opp_sub eo_var eo_int) ao_nil))))) go_name)
      (so_seq (so_asg (eo_tup (ao_cons eo_str (ao_cons eo_var ao_nil))) go_name)
      (so_seq (so_if (tto_or (tto_test (eo_op opp_eq eo_var eo_int)) (tto_and (tto_test (eo_op opp_eq eo_var eo_int)) (tto_test (eo_op opp_eq eo_var eo_int)))) (so_asg (eo_tup (ao_cons eo_str ao_nil)) go_name) (so_if (tto_test (eo_op opp_eq eo_var eo_int)) (so_asg (eo_tup (ao_cons eo_str ao_nil)) go_name) (so_if (tto_and (tto_test (eo_op opp_gt eo_var eo_int)) (tto_test (eo_op opp_gt eo_var eo_int))) (so_asg (eo_op opp_ix (eo_lst (ao_cons (eo_tup (ao_cons eo_str (ao_cons eo_var ao_nil))) (ao_cons (eo_tup (ao_cons eo_str (ao_cons eo_var (ao_cons eo_var ao_nil)))) (ao_cons (eo_tup (ao_cons eo_str (ao_cons eo_var ao_nil))) ao_nil)))) (eo_op opp_sub eo_var eo_int)) go_name) so_next)))
      (so_ret eo_var))))))⟩
theorem sc__law_read_bed : FnScope ["_law_xs", "_law_keys", "_law_many", "_law_layers", "_law_layer", "_law_plain", "_law_chords", "_law_x", "_law_some"] ["_law_xs"] (defScope (top 39)) := ⟨rfl, rfl, rfl, by decide +kernel, rfl, by decide +kernel, by decide +kernel⟩
theorem ok__law_read_bed (F : Fun K "_law_read_bed" "_law_read_bed" (top 39) f fd) (c__law_meaning_of : CalP P w K mg base 2 "_law_meaning_of" ["_law_rest", "_law_layer", "_law_layers"] 3 F__law_meaning_of) (c__law_letter : CalP P w K mg base 1 "_law_letter" ["_law_cell_here"] 1 F__law_letter) (z_range : mg "range" = none) (z_tuple : mg "tuple" = none) (z_len : mg "len" = none) : FnOk P w K mg base CX0 3 f fd ["_law_xs"] (spP K 1 F__law_read_bed) := by
  refine okF (k := 2) (n := 1) (m := 9) (g := g__law_read_bed) (FF := F__law_read_bed) F sc__law_read_bed rfl rfl rfl (fun cdv A outer s H E hr => ?_)
  have hu := hr.units
  have hv : (A.deeper (PyProof.Rows.envOfC "_law_read_bed" (defScope (top 39)) s.heap.objs.size f cdv)).units + 65 < cLine := by have := hr.un; omega
  exact ⟨_, (pss_cons (ps_set (i := 1) sc__law_read_bed.nd rfl (Or.inl rfl) (pe_op op_addA pe_int (pe_op op_mod (pe_ix ix_seq (pv 0) pe_int (fun _ _ => rfl)) pe_int)))
      (pss_cons (ps_set (i := 2) sc__law_read_bed.nd rfl (Or.inr rfl) (pe_op op_addA pe_int (pe_op op_mod (pe_op op_fdivL (pe_ix ix_seq (pv 0) pe_int (fun _ _ => rfl)) pe_int) pe_int)))
      (pss_cons (ps_set (i := 3) sc__law_read_bed.nd rfl (Or.inr rfl) (pe_lst pa_nil))
      (pss_cons (ps_for PassesOwn.never rfl (pi_range1 rfl z_range (pa_cons (pv 2) pa_nil)) (pg_name (i := 4) sc__law_read_bed.nd rfl (Or.inr rfl)) (pss_one (ps_expr (pe_bm PySem.F.plainAttrs_list PySem.F.slot_list_append PySem.F.type_list_append mt_append (pv 3) (pa_cons (pe_callTy call_tuple_of rfl z_tuple b_tuple (pa_cons (pe_comp ["_law_key"] [("_law_xs", 0), ("_law_layer", 4), ("_law_many", 2)] rfl (pi_range1 rfl z_range (pa_cons (pv 1) pa_nil)) (fun _ _ _ _ => (pg_name (i := 0) (show List.Nodup (["_law_key", "_law_xs", "_law_layer", "_law_many"] : List Str) by decide +kernel) rfl (Or.inl rfl))) (fun _ _ _ _ => pifs_nil) (fun _ _ _ _ => (pe_cal c__law_meaning_of hr (pa_cons (pe_ix ix_seq (pv 1) (pe_op op_addA (pe_op op_addA pe_int (pe_op op_mulB pe_int (pv 2))) (pv 0)) (fun _ _ => rfl)) (pa_cons (pv 2) (pa_cons (pv 3) pa_nil))))) ⟨⟨rfl, rfl, Or.inl rfl⟩, ⟨⟨rfl, rfl, Or.inl rfl⟩, ⟨⟨rfl, rfl, Or.inl rfl⟩, trivial⟩⟩⟩ rfl) pa_nil)) pa_nil)))))
      (pss_cons (ps_comp (i := 5) ["_law_key"] [("_law_layers", 3)] sc__law_read_bed.nd rfl rfl rfl (pi_range1 rfl z_range (pa_cons (pv 1) pa_nil)) (fun _ _ _ _ => (pg_name (i := 0) (show List.Nodup (["_law_key", "_law_layers"] : List Str) by decide +kernel) rfl (Or.inl rfl))) (fun _ _ _ _ => (pifs_one (pt_cmpR (op_eqD hu) (pe_ix ix_seq (pe_ix ix_seq (pe_ix ix_seq (pv 1) pe_int (fun _ _ => rfl)) (pv 0) (fun _ _ => rfl)) pe_int (fun _ _ => rfl)) pe_str (nomark _)))) (fun _ _ _ _ => (pv 0)) ⟨⟨rfl, rfl, Or.inl rfl⟩, trivial⟩ rfl)
      (pss_cons (ps_set (i := 6) sc__law_read_bed.nd rfl (Or.inl rfl) (pe_lst pa_nil))
      (pss_cons (ps_for PassesOwn.never rfl (pi_seq (pe_slice sl_any (pv 0) (po_some pe_int) (po_some (pe_op op_addA pe_int (pe_op op_mod (pe_op op_fdivL (pe_ix ix_seq (pv 0) pe_int (fun _ _ => rfl)) pe_int) pe_int))))) (pg_name (i := 7) sc__law_read_bed.nd rfl (Or.inr rfl)) (pss_cons (ps_set (i := 8) sc__law_read_bed.nd rfl (Or.inl rfl) (pe_callTy call_tuple_of rfl z_tuple b_tuple (pa_cons (pe_comp ["_law_key"] [("_law_x", 7)] rfl (pi_seq (pv 5)) (fun _ _ _ _ => (pg_name (i := 0) (show List.Nodup (["_law_key", "_law_x"] : List Str) by decide +kernel) rfl (Or.inl rfl))) (fun _ _ _ _ => (pifs_one (pt_cmpR (op_eqD hu) (pe_op op_mod (pe_op op_fdivL (pv 1) (pe_ix ix_seq (pe_lst (pa_cons pe_int (pa_cons pe_int (pa_cons pe_int (pa_cons pe_int (pa_cons pe_int pa_nil)))))) (pv 0) (fun _ _ => rfl))) pe_int) pe_int (nomark _)))) (fun _ _ _ _ => (pv 0)) ⟨⟨rfl, rfl, Or.inl rfl⟩, trivial⟩ rfl) pa_nil)))
      (pss_one (ps_if (PW.pt (pw_and (pt_cmpR op_gt (pe_callB call_len rfl z_len b_len (pa_cons (pv 8) pa_nil)) pe_int (nomark _)) (pw_and1 (pt_cmpR (op_ninD hv) (pv 8) (pe_comp ["_law_chord"] [] rfl (pi_seq (pv 6)) (fun _ _ _ _ => (pg_name (i := 0) (show List.Nodup (["_law_chord"] : List Str) by decide +kernel) rfl (Or.inl rfl))) (fun _ _ _ _ => pifs_nil) (fun _ _ _ _ => (pe_ix ix_seq (pv 0) pe_int (fun _ _ => rfl))) trivial rfl) (by with_unfolding_all rfl))))) (pss_one (ps_expr (pe_bm PySem.F.plainAttrs_list PySem.F.slot_list_append PySem.F.type_list_append mt_append (pv 6) (pa_cons (pe_tup (pa_cons (pv 8) (pa_cons (pe_cal c__law_letter hr (pa_cons (pe_op op_fdivL (pv 7) pe_int) pa_nil)) pa_nil))) pa_nil)))) pss_nil))))
      (pss_one (ps_ret (pe_tup (pa_cons (pv 1) (pa_cons (pe_callTy call_tuple_of rfl z_tuple b_tuple (pa_cons (pv 3) pa_nil)) (pa_cons (pe_callTy call_tuple_of rfl z_tuple b_tuple (pa_cons (pv 6) pa_nil)) (pa_cons (pe_op op_addA pe_int (pe_op op_mod (pe_op op_fdivL (pe_ix ix_seq (pv 0) pe_int (fun _ _ => rfl)) pe_int) pe_int)) pa_nil)))))))))))))), (so_seq (so_asg (eo_op opp_add eo_int (eo_op opp_mod (eo_op opp_ix eo_var eo_int) eo_int)) go_name)
      (so_seq (so_asg (eo_op opp_add eo_int (eo_op opp_mod (eo_op opp_div (eo_op opp_ix eo_var eo_int) eo_int) eo_int)) go_name)
      (so_seq (so_asg (eo_lst ao_nil) go_name)
      (so_seq (so_for (io_rng1 (ao_cons eo_var ao_nil)) go_name (so_drop (eo_app (eo_cb cb_tuple (ao_cons (eo_comp rfl rfl (io_rng1 (ao_cons eo_var ao_nil)) go_name tto_true (eo_cal (ao_cons (eo_op opp_ix eo_var (eo_op opp_add (eo_op opp_add eo_int (eo_op opp_mulE eo_int eo_var)) eo_var)) (ao_cons eo_var (ao_cons eo_var ao_nil))))) ao_nil)))))
      (so_seq (so_asg (eo_comp rfl rfl (io_rng1 (ao_cons eo_var ao_nil)) go_name (tto_test (eo_op opp_eq (eo_op opp_ix (eo_op opp_ix (eo_op opp_ix eo_var eo_int) eo_var) eo_int) eo_str)) eo_var) go_name)
      (so_seq (so_asg (eo_lst ao_nil) go_name)
      (so_seq (so_for (io_seq (eo_sl slp_any eo_var (too_some eo_int) (too_some (eo_op opp_add eo_int (eo_op opp_mod (eo_op opp_div (eo_op opp_ix eo_var eo_int) eo_int) eo_int))))) go_name (so_seq (so_asg (eo_cb cb_tuple (ao_cons (eo_compS rfl rfl ios_keep go_name (tto_test (eo_op opp_eq (eo_op opp_mod (eo_op opp_div eo_var (eo_op opp_ix (eo_lst (ao_cons eo_int (ao_cons eo_int (ao_cons eo_int (ao_cons eo_int (ao_cons eo_int ao_nil)))))) eo_var)) eo_int) eo_int)) eo_var) ao_nil)) go_name)
      (so_if (tto_and (tto_test (eo_op opp_gt (eo_cb cb_len (ao_cons eo_var ao_nil)) eo_int)) (tto_test (eo_op opp_nin eo_var (eo_compS rfl rfl ios_keep go_name tto_true (eo_op opp_ix eo_var eo_int))))) (so_drop (eo_app (eo_tup (ao_cons eo_var (ao_cons (eo_cal (ao_cons (eo_op opp_div eo_var eo_int) ao_nil)) ao_nil))))) so_next)))
      (so_ret (eo_tup (ao_cons eo_var (ao_cons (eo_cb cb_tuple (ao_cons eo_var ao_nil)) (ao_cons (eo_cb cb_tuple (ao_cons eo_var ao_nil)) (ao_cons (eo_op opp_add eo_int (eo_op opp_mod (eo_op opp_div (eo_op opp_ix eo_var eo_int) eo_int) eo_int)) ao_nil)))))))))))))⟩
theorem sc__law_wide : FnScope ["_law_cell_here", "_law_salt"] ["_law_cell_here", "_law_salt"] (defScope (top 33)) := ⟨rfl, rfl, rfl, by decide +kernel, rfl, by decide +kernel, by decide +kernel⟩
theorem ok__law_wide (F : Fun K "_law_wide" "_law_wide" (top 33) f fd) (c__law_stirred : CalP P w K mg base 1 "_law_stirred" ["_law_cell_here", "_law_salt"] 2 F__law_stirred) (z_max : mg "max" = none) : FnOk P w K mg base CX0 2 f fd ["_law_cell_here", "_law_salt"] (spP K 2 F__law_wide) := by
  refine okF (k := 1) (n := 2) (m := 2) (g := g__law_wide) (FF := F__law_wide) F sc__law_wide rfl rfl rfl (fun cdv A outer s H E hr => ?_)
  have hu := hr.units
  have hv : (A.deeper (PyProof.Rows.envOfC "_law_wide" (defScope (top 33)) s.heap.objs.size f cdv)).units + 65 < cLine := by have := hr.un; omega
  exact ⟨_, (pss_cons (ps_if (PW.pt (pw_or (pt_cmpR op_lt (pv 0) pe_int (nomark _)) (pw_or1 (pt_cmpR op_ge (pv 0) (pe_op op_pow pe_int pe_int) (nomark _))))) (pss_one (ps_ret (pe_callB (call_max2 rfl) rfl z_max b_max (pa_cons (pv 0) (pa_cons (pe_op op_sub pe_int (pv 0)) pa_nil))))) pss_nil)
      (pss_one (ps_ret (pe_cal c__law_stirred hr (pa_cons (pe_cal c__law_stirred hr (pa_cons (pv 0) (pa_cons (pv 1) pa_nil))) (pa_cons pe_int pa_nil)))))), (so_seq (so_if (tto_or (tto_test (eo_op opp_lt eo_var eo_int)) (tto_test (eo_op opp_ge eo_var (eo_op opp_pow eo_int eo_int)))) (so_ret (eo_cb cb_max2 (ao_cons eo_var (ao_cons (eo_op opp_sub eo_int eo_var) ao_nil)))) so_next)
      (so_ret (eo_cal (ao_cons (eo_cal (ao_cons eo_var (ao_cons eo_var ao_nil))) (ao_cons eo_int ao_nil)))))⟩
theorem sc__law_meaning : FnScope ["_law_cell_here", "_law_layer", "_law_layers", "_law_sort", "_law_sign", "_law_there"] ["_law_cell_here", "_law_layer", "_law_layers"] (defScope (top 37)) := ⟨rfl, rfl, rfl, by decide +kernel, rfl, by decide +kernel, by decide +kernel⟩
theorem ok__law_meaning (F : Fun K "_law_meaning" "_law_meaning" (top 37) f fd) (c__law_letter : CalP P w K mg base 1 "_law_letter" ["_law_cell_here"] 1 F__law_letter) (z_max : mg "max" = none) : FnOk P w K mg base CX0 2 f fd ["_law_cell_here", "_law_layer", "_law_layers"] (spP K 3 F__law_meaning) := by
  refine okF (k := 1) (n := 3) (m := 6) (g := g__law_meaning) (FF := F__law_meaning) F sc__law_meaning rfl rfl rfl (fun cdv A outer s H E hr => ?_)
  have hu := hr.units
  have hv : (A.deeper (PyProof.Rows.envOfC "_law_meaning" (defScope (top 37)) s.heap.objs.size f cdv)).units + 65 < cLine := by have := hr.un; omega
  exact ⟨_, (pss_cons (ps_set (i := 3) sc__law_meaning.nd rfl (Or.inl rfl) (pe_op op_mod (pv 0) pe_int))
      (pss_cons (ps_set (i := 4) sc__law_meaning.nd rfl (Or.inl rfl) (pe_cal c__law_letter hr (pa_cons (pe_op op_fdivL (pv 0) pe_int) pa_nil)))
      (pss_cons (ps_if (PW.pt (pw_or (pt_cmpR op_lt (pv 3) pe_int (nomark _)) (pw_or1 (PW.pt (pw_and (pt_cmpR (op_eqD hu) (pv 2) pe_int (nomark _)) (pw_and1 (pt_cmpR op_lt (pv 3) pe_int (nomark _)))))))) (pss_one (ps_ret (pe_tup (pa_cons pe_str (pa_cons (pv 4) pa_nil))))) pss_nil)
      (pss_cons (ps_set (i := 5) sc__law_meaning.nd rfl (Or.inl rfl) (pe_op op_addA pe_int (pe_op op_mod (pe_op op_fdivL (pv 0) pe_int) (pe_callB (call_max2 rfl) rfl z_max b_max (pa_cons pe_int (pa_cons (pe_op op_sub (pv 2) pe_int) pa_nil))))))
      (pss_cons (ps_if (pt_cmpR (op_eqD hu) (pv 3) pe_int (nomark _)) (pss_one (ps_ret (pe_tup (pa_cons pe_str (pa_cons (pv 5) pa_nil))))) pss_nil)
      (pss_cons (ps_if (pt_cmpR (op_eqD hu) (pv 3) pe_int (nomark _)) (pss_one (ps_ret (pe_tup (pa_cons pe_str (pa_cons (pv 4) (pa_cons (pv 5) pa_nil)))))) pss_nil)
      (pss_cons (ps_if (pt_cmpR (op_eqD hu) (pv 3) pe_int (nomark _)) (pss_one (ps_ret (pe_tup (pa_cons pe_str (pa_cons (pv 5) pa_nil))))) pss_nil)
      (pss_cons (ps_if (PW.pt (pw_and (pt_cmpR (op_eqD hu) (pv 3) pe_int (nomark _)) (pw_and1 (pt_cmpR op_gt (pv 1) pe_int (nomark _))))) (pss_one (ps_ret (pe_tup (pa_cons pe_str pa_nil)))) pss_nil)
      (pss_one (ps_ret (pe_tup (pa_cons pe_str pa_nil)))))))))))), (so_seq (so_asg (eo_op opp_mod eo_var eo_int) go_name)
      (so_seq (so_asg (eo_cal (ao_cons (eo_op opp_div eo_var eo_int) ao_nil)) go_name)
      (so_seq (so_if (tto_or (tto_test (eo_op opp_lt eo_var eo_int)) (tto_and (tto_test (eo_op opp_eq eo_var eo_int)) (tto_test (eo_op opp_lt eo_var eo_int)))) (so_ret (eo_tup (ao_cons eo_str (ao_cons eo_var ao_nil)))) so_next)
      (so_seq (so_asg (eo_op opp_add eo_int (eo_op opp_mod (eo_op opp_div eo_var eo_int) (eo_cb cb_max2 (ao_cons eo_int (ao_cons (eo_op opp_sub eo_var eo_int) ao_nil))))) go_name)
      (so_seq (so_if (tto_test (eo_op opp_eq eo_var eo_int)) (so_ret (eo_tup (ao_cons eo_str (ao_cons eo_var ao_nil)))) so_next)
      (so_seq (so_if (tto_test (eo_op opp_eq eo_var eo_int)) (so_ret (eo_tup (ao_cons eo_str (ao_cons eo_var (ao_cons eo_var ao_nil))))) so_next)
      (so_seq (so_if (tto_test (eo_op opp_eq eo_var eo_int)) (so_ret (eo_tup (ao_cons eo_str (ao_cons eo_var ao_nil)))) so_next)
      (so_seq (so_if (tto_and (tto_test (eo_op opp_eq eo_var eo_int)) (tto_test (eo_op opp_gt eo_var eo_int))) (so_ret (eo_tup (ao_cons eo_str ao_nil))) so_next)
      (so_ret (eo_tup (ao_cons eo_str ao_nil)))))))))))⟩
theorem sc__law_bed : FnScope ["_law_script", "_law_at", "_law_first", "_law_rich", "_law_keys", "_law_layers", "_law_layer", "_law_row", "_law_plain", "_law_chords", "_law_k", "_law_cell_here", "_law_some"] ["_law_script", "_law_at"] (defScope (top 40)) := ⟨rfl, rfl, rfl, by decide +kernel, rfl, by decide +kernel, by decide +kernel⟩
theorem ok__law_bed (F : Fun K "_law_bed" "_law_bed" (top 40) f fd) (c__law_cell : CalP P w K mg base 1 "_law_cell" ["_law_script", "_law_k"] 2 F__law_cell) (c__law_stream : CalP P w K mg base 2 "_law_stream" ["_law_cell_here", "_law_many"] 2 F__law_stream) (c__law_read_bed : CalP P w K mg base 3 "_law_read_bed" ["_law_xs"] 1 F__law_read_bed) (c__law_wide : CalP P w K mg base 2 "_law_wide" ["_law_cell_here", "_law_salt"] 2 F__law_wide) (c__law_meaning : CalP P w K mg base 2 "_law_meaning" ["_law_cell_here", "_law_layer", "_law_layers"] 3 F__law_meaning) (c__law_letter : CalP P w K mg base 1 "_law_letter" ["_law_cell_here"] 1 F__law_letter) (z_int : mg "int" = none) (z_range : mg "range" = none) (z_tuple : mg "tuple" = none) (z_len : mg "len" = none) : FnOk P w K mg base CX0 4 f fd ["_law_script", "_law_at"] (spP K 2 F__law_bed) := by
  refine okF (k := 3) (n := 2) (m := 13) (g := g__law_bed) (FF := F__law_bed) F sc__law_bed rfl rfl rfl (fun cdv A outer s H E hr => ?_)
  have hu := hr.units
  have hv : (A.deeper (PyProof.Rows.envOfC "_law_bed" (defScope (top 40)) s.heap.objs.size f cdv)).units + 65 < cLine := by have := hr.un; omega
  obtain ⟨t0_0, u0_0, v0_0⟩ : ∃ t, PE (cxOf CX0 P w K mg base ["_law_script", "_law_at", "_law_first", "_law_rich", "_law_keys", "_law_layers", "_law_layer", "_law_row", "_law_plain", "_law_chords", "_law_k", "_law_cell_here", "_law_some"] "_law_bed" (defScope (top 40)) f cdv A outer s H E).nox ((le (sv (av ((fb ((fb ((defBody (top 40)).getD 9 DP)).getD 2 DP)).getD 0 DP)))).getD 0 DE) t ∧ EO K E t (pTup (aCons (pC (.int 0)) (aCons (pC (.int 1)) aNil))) := ⟨_, (pe_tup (pa_cons pe_int (pa_cons pe_int pa_nil))), (eo_tup (ao_cons eo_int (ao_cons eo_int ao_nil)))⟩
  obtain ⟨t0_1, u0_1, v0_1⟩ : ∃ t, PE (cxOf CX0 P w K mg base ["_law_script", "_law_at", "_law_first", "_law_rich", "_law_keys", "_law_layers", "_law_layer", "_law_row", "_law_plain", "_law_chords", "_law_k", "_law_cell_here", "_law_some"] "_law_bed" (defScope (top 40)) f cdv A outer s H E).nox ((le (sv (av ((fb ((fb ((defBody (top 40)).getD 9 DP)).getD 2 DP)).getD 0 DP)))).getD 1 DE) t ∧ EO K E t (pTup (aCons (pC (.int 1)) (aCons (pC (.int 2)) aNil))) := ⟨_, (pe_tup (pa_cons pe_int (pa_cons pe_int pa_nil))), (eo_tup (ao_cons eo_int (ao_cons eo_int ao_nil)))⟩
  obtain ⟨t0_2, u0_2, v0_2⟩ : ∃ t, PE (cxOf CX0 P w K mg base ["_law_script", "_law_at", "_law_first", "_law_rich", "_law_keys", "_law_layers", "_law_layer", "_law_row", "_law_plain", "_law_chords", "_law_k", "_law_cell_here", "_law_some"] "_law_bed" (defScope (top 40)) f cdv A outer s H E).nox ((le (sv (av ((fb ((fb ((defBody (top 40)).getD 9 DP)).getD 2 DP)).getD 0 DP)))).getD 2 DE) t ∧ EO K E t (pTup (aCons (pC (.int 0)) (aCons (pC (.int 1)) (aCons (pC (.int 2)) aNil)))) := ⟨_, (pe_tup (pa_cons pe_int (pa_cons pe_int (pa_cons pe_int pa_nil)))), (eo_tup (ao_cons eo_int (ao_cons eo_int (ao_cons eo_int ao_nil))))⟩
  obtain ⟨t0_3, u0_3, v0_3⟩ : ∃ t, PE (cxOf CX0 P w K mg base ["_law_script", "_law_at", "_law_first", "_law_rich", "_law_keys", "_law_layers", "_law_layer", "_law_row", "_law_plain", "_law_chords", "_law_k", "_law_cell_here", "_law_some"] "_law_bed" (defScope (top 40)) f cdv A outer s H E).nox ((le (sv (av ((fb ((fb ((defBody (top 40)).getD 9 DP)).getD 2 DP)).getD 0 DP)))).getD 3 DE) t ∧ EO K E t (pTup (aCons (pC (.int 0)) (aCons (pOp subD (pVar 4) (pC (.int 1))) aNil))) := ⟨_, (pe_tup (pa_cons pe_int (pa_cons (pe_op op_sub (pv 4) pe_int) pa_nil))), (eo_tup (ao_cons eo_int (ao_cons (eo_op opp_sub eo_var eo_int) ao_nil)))⟩
  have st0_0 : isSt ((le (sv (av ((fb ((fb ((defBody (top 40)).getD 9 DP)).getD 2 DP)).getD 0 DP)))).getD 0 DE) = false := rfl
  have st0_1 : isSt ((le (sv (av ((fb ((fb ((defBody (top 40)).getD 9 DP)).getD 2 DP)).getD 0 DP)))).getD 1 DE) = false := rfl
  have st0_2 : isSt ((le (sv (av ((fb ((fb ((defBody (top 40)).getD 9 DP)).getD 2 DP)).getD 0 DP)))).getD 2 DE) = false := rfl
  have st0_3 : isSt ((le (sv (av ((fb ((fb ((defBody (top 40)).getD 9 DP)).getD 2 DP)).getD 0 DP)))).getD 3 DE) = false := rfl
  obtain ⟨ti0, ui0, vi0⟩ : ∃ t, PE (cxOf CX0 P w K mg base ["_law_script", "_law_at", "_law_first", "_law_rich", "_law_keys", "_law_layers", "_law_layer", "_law_row", "_law_plain", "_law_chords", "_law_k", "_law_cell_here", "_law_some"] "_law_bed" (defScope (top 40)) f cdv A outer s H E).nox (ss (av ((fb ((fb ((defBody (top 40)).getD 9 DP)).getD 2 DP)).getD 0 DP))) t ∧ EO K E t (pOp modD (pOp addD (pVar 10) (pOp divD (pVar 2) (pC (.int 960)))) (pC (.int 4))) := ⟨_, (pe_op op_mod (pe_op op_addA (pv 10) (pe_op op_fdivL (pv 2) pe_int)) pe_int), (eo_op opp_mod (eo_op opp_add eo_var (eo_op opp_div eo_var eo_int)) eo_int)⟩
  obtain ⟨tc0, uc0, vc0⟩ : ∃ t, PT (cxOf CX0 P w K mg base ["_law_script", "_law_at", "_law_first", "_law_rich", "_law_keys", "_law_layers", "_law_layer", "_law_row", "_law_plain", "_law_chords", "_law_k", "_law_cell_here", "_law_some"] "_law_bed" (defScope (top 40)) f cdv A outer s H E).nox (iT ((fb ((defBody (top 40)).getD 9 DP)).getD 2 DP)) t ∧ TTO K E t (pBool (pVar 3)) := ⟨_, (pt_val (pv 3)), (tto_b eo_var)⟩
  have hp0 : PlainIx (ss (av ((fb ((fb ((defBody (top 40)).getD 9 DP)).getD 2 DP)).getD 0 DP))) := fun _ _ => rfl
  have hL0 : (sv (av ((fb ((fb ((defBody (top 40)).getD 9 DP)).getD 2 DP)).getD 0 DP))) = .List [(le (sv (av ((fb ((fb ((defBody (top 40)).getD 9 DP)).getD 2 DP)).getD 0 DP)))).getD 0 DE, (le (sv (av ((fb ((fb ((defBody (top 40)).getD 9 DP)).getD 2 DP)).getD 0 DP)))).getD 1 DE, (le (sv (av ((fb ((fb ((defBody (top 40)).getD 9 DP)).getD 2 DP)).getD 0 DP)))).getD 2 DE, (le (sv (av ((fb ((fb ((defBody (top 40)).getD 9 DP)).getD 2 DP)).getD 0 DP)))).getD 3 DE] (lp (sv (av ((fb ((fb ((defBody (top 40)).getD 9 DP)).getD 2 DP)).getD 0 DP)))) := rfl
  have hV0 : (av ((fb ((fb ((defBody (top 40)).getD 9 DP)).getD 2 DP)).getD 0 DP)) = .Subscript (sv (av ((fb ((fb ((defBody (top 40)).getD 9 DP)).getD 2 DP)).getD 0 DP))) (ss (av ((fb ((fb ((defBody (top 40)).getD 9 DP)).getD 2 DP)).getD 0 DP))) (sP (av ((fb ((fb ((defBody (top 40)).getD 9 DP)).getD 2 DP)).getD 0 DP))) := rfl
  have hA0 : ((fb ((fb ((defBody (top 40)).getD 9 DP)).getD 2 DP)).getD 0 DP) = .Assign [.Name "_law_some" (nP ((fb ((fb ((defBody (top 40)).getD 9 DP)).getD 2 DP)).getD 0 DP))] (av ((fb ((fb ((defBody (top 40)).getD 9 DP)).getD 2 DP)).getD 0 DP)) (aP ((fb ((fb ((defBody (top 40)).getD 9 DP)).getD 2 DP)).getD 0 DP)) := rfl
  have hS0 : ((fb ((defBody (top 40)).getD 9 DP)).getD 2 DP) = .If (iT ((fb ((defBody (top 40)).getD 9 DP)).getD 2 DP)) [((fb ((fb ((defBody (top 40)).getD 9 DP)).getD 2 DP)).getD 0 DP)] [] (iP ((fb ((defBody (top 40)).getD 9 DP)).getD 2 DP)) := rfl
  obtain ⟨t0, u0, v0⟩ : ∃ t, PE (cxOf CX0 P w K mg base ["_law_script", "_law_at", "_law_first", "_law_rich", "_law_keys", "_law_layers", "_law_layer", "_law_row", "_law_plain", "_law_chords", "_law_k", "_law_cell_here", "_law_some"] "_law_bed" (defScope (top 40)) f cdv A outer s H E).nox (sv (av ((fb ((fb ((defBody (top 40)).getD 9 DP)).getD 2 DP)).getD 0 DP))) t ∧ EO K E t (pLst (aCons (pTup (aCons (pC (.int 0)) (aCons (pC (.int 1)) aNil))) (aCons (pTup (aCons (pC (.int 1)) (aCons (pC (.int 2)) aNil))) (aCons (pTup (aCons (pC (.int 0)) (aCons (pC (.int 1)) (aCons (pC (.int 2)) aNil)))) (aCons (pTup (aCons (pC (.int 0)) (aCons (pOp subD (pVar 4) (pC (.int 1))) aNil))) aNil))))) := by
    generalize (le (sv (av ((fb ((fb ((defBody (top 40)).getD 9 DP)).getD 2 DP)).getD 0 DP)))).getD 0 DE = e0 at *
    generalize (le (sv (av ((fb ((fb ((defBody (top 40)).getD 9 DP)).getD 2 DP)).getD 0 DP)))).getD 1 DE = e1 at *
    generalize (le (sv (av ((fb ((fb ((defBody (top 40)).getD 9 DP)).getD 2 DP)).getD 0 DP)))).getD 2 DE = e2 at *
    generalize (le (sv (av ((fb ((fb ((defBody (top 40)).getD 9 DP)).getD 2 DP)).getD 0 DP)))).getD 3 DE = e3 at *
    rw [hL0]
    exact ⟨_, pe_lst (paC u0_0 (paC u0_1 (paC u0_2 (paC u0_3 pa_nil st0_3) st0_2) st0_1) st0_0), eo_lst (ao_cons v0_0 (ao_cons v0_1 (ao_cons v0_2 (ao_cons v0_3 ao_nil))))⟩
  obtain ⟨ts0, us0, vs0⟩ : ∃ t, PS (cxOf CX0 P w K mg base ["_law_script", "_law_at", "_law_first", "_law_rich", "_law_keys", "_law_layers", "_law_layer", "_law_row", "_law_plain", "_law_chords", "_law_k", "_law_cell_here", "_law_some"] "_law_bed" (defScope (top 40)) f cdv A outer s H E).nox ((fb ((defBody (top 40)).getD 9 DP)).getD 2 DP) t ∧ SO K E t (sIf (pBool (pVar 3)) (sAsg (pOp ixD (pLst (aCons (pTup (aCons (pC (.int 0)) (aCons (pC (.int 1)) aNil))) (aCons (pTup (aCons (pC (.int 1)) (aCons (pC (.int 2)) aNil))) (aCons (pTup (aCons (pC (.int 0)) (aCons (pC (.int 1)) (aCons (pC (.int 2)) aNil)))) (aCons (pTup (aCons (pC (.int 0)) (aCons (pOp subD (pVar 4) (pC (.int 1))) aNil))) aNil))))) (pOp modD (pOp addD (pVar 10) (pOp divD (pVar 2) (pC (.int 960)))) (pC (.int 4)))) (gN 12)) sNext) := by
    clear hL0 u0_0 v0_0 st0_0 u0_1 v0_1 st0_1 u0_2 v0_2 st0_2 u0_3 v0_3 st0_3
    rw [hS0]
    generalize iT ((fb ((defBody (top 40)).getD 9 DP)).getD 2 DP) = eC at *
    generalize iP ((fb ((defBody (top 40)).getD 9 DP)).getD 2 DP) = pC at *
    rw [hA0]
    generalize nP ((fb ((fb ((defBody (top 40)).getD 9 DP)).getD 2 DP)).getD 0 DP) = pN at *
    generalize aP ((fb ((fb ((defBody (top 40)).getD 9 DP)).getD 2 DP)).getD 0 DP) = pA at *
    rw [hV0]
    generalize (sv (av ((fb ((fb ((defBody (top 40)).getD 9 DP)).getD 2 DP)).getD 0 DP))) = eL at *
    generalize ss (av ((fb ((fb ((defBody (top 40)).getD 9 DP)).getD 2 DP)).getD 0 DP)) = eI at *
    generalize sP (av ((fb ((fb ((defBody (top 40)).getD 9 DP)).getD 2 DP)).getD 0 DP)) = pS at *
    exact ⟨_, ps_if uc0 (pss_one (ps_set (i := 12) sc__law_bed.nd rfl (Or.inl rfl) (pe_ix ix_seq u0 ui0 hp0))) pss_nil, so_if vc0 (so_asg (eo_op opp_ix v0 vi0) go_name) so_next⟩
  exact ⟨_, (pss_cons (ps_set (i := 2) sc__law_bed.nd rfl (Or.inr rfl) (pe_cal c__law_cell hr (pa_cons (pv 0) (pa_cons (pv 1) pa_nil))))
      (pss_cons (ps_if (PW.pt (pw_or (pt_cmpR op_lt (pv 2) pe_int (nomark _)) (pw_or1 (pt_cmpR op_ge (pv 2) (pe_op op_pow pe_int pe_int) (nomark _))))) (pss_one (ps_ret (pe_cal c__law_read_bed hr (pa_cons (pe_cal c__law_stream hr (pa_cons (pv 2) (pa_cons pe_int pa_nil))) pa_nil)))) pss_nil)
      (pss_cons (ps_set (i := 2) sc__law_bed.nd rfl (Or.inr rfl) (pe_cal c__law_wide hr (pa_cons (pv 2) (pa_cons (pv 1) pa_nil))))
      (pss_cons (ps_set (i := 3) sc__law_bed.nd rfl (Or.inl rfl) (pe_cmpR (op_eqD hu) (pe_op op_mod (pe_op op_fdivL (pv 2) pe_int) pe_int) pe_int (nomark _)))
      (pss_cons (ps_set (i := 4) sc__law_bed.nd rfl (Or.inl rfl) (pe_ix ix_seq (pe_lst (pa_cons (pe_op op_addA pe_int (pe_op op_mod (pv 2) pe_int)) (pa_cons (pe_op op_addA pe_int (pe_op op_mod (pv 2) pe_int)) pa_nil))) (pe_callTy call_int1 rfl z_int b_int (pa_cons (pv 3) pa_nil)) (fun _ _ => rfl)))
      (pss_cons (ps_set (i := 5) sc__law_bed.nd rfl (Or.inr rfl) (pe_lst pa_nil))
      (pss_cons (ps_for PassesOwn.never rfl (pi_range1 rfl z_range (pa_cons (pe_op op_addA pe_int (pe_op op_mod (pe_op op_fdivL (pv 2) pe_int) pe_int)) pa_nil)) (pg_name (i := 6) sc__law_bed.nd rfl (Or.inr rfl)) (pss_cons (ps_comp (i := 7) ["_law_key"] [("_law_script", 0), ("_law_at", 1), ("_law_layer", 6)] sc__law_bed.nd rfl rfl rfl (pi_range1 rfl z_range (pa_cons (pv 4) pa_nil)) (fun _ _ _ _ => (pg_name (i := 0) (show List.Nodup (["_law_key", "_law_script", "_law_at", "_law_layer"] : List Str) by decide +kernel) rfl (Or.inl rfl))) (fun _ _ _ _ => pifs_nil) (fun _ _ _ _ => (pe_cal c__law_wide hr (pa_cons (pe_cal c__law_cell hr (pa_cons (pv 1) (pa_cons (pe_op op_addA (pe_op op_addA (pe_op op_addA (pv 2) pe_int) (pe_op op_mulB pe_int (pv 3))) (pv 0)) pa_nil))) (pa_cons (pe_op op_addA (pe_op op_mulB pe_int (pv 3)) (pv 0)) pa_nil)))) ⟨⟨rfl, rfl, Or.inl rfl⟩, ⟨⟨rfl, rfl, Or.inl rfl⟩, ⟨⟨rfl, rfl, Or.inl rfl⟩, trivial⟩⟩⟩ rfl)
      (pss_cons (ps_expr (pe_bm PySem.F.plainAttrs_list PySem.F.slot_list_append PySem.F.type_list_append mt_append (pv 5) (pa_cons (pe_callTy call_tuple_of rfl z_tuple b_tuple (pa_cons (pe_comp ["_law_cell_here"] [("_law_layer", 6), ("_law_first", 2)] rfl (pi_seq (pv 7)) (fun _ _ _ _ => (pg_name (i := 0) (show List.Nodup (["_law_cell_here", "_law_layer", "_law_first"] : List Str) by decide +kernel) rfl (Or.inl rfl))) (fun _ _ _ _ => pifs_nil) (fun _ _ _ _ => (pe_cal c__law_meaning hr (pa_cons (pv 0) (pa_cons (pv 1) (pa_cons (pe_op op_addA pe_int (pe_op op_mod (pe_op op_fdivL (pv 2) pe_int) pe_int)) pa_nil))))) ⟨⟨rfl, rfl, Or.inl rfl⟩, ⟨⟨rfl, rfl, Or.inl rfl⟩, trivial⟩⟩ rfl) pa_nil)) pa_nil)))
      (pss_one (ps_if (PW.pt (pw_and (pt_val (pv 3)) (pw_and1 (pt_cmpR (op_eqD hu) (pv 6) pe_int (nomark _))))) (pss_one (ps_set (i := 5) sc__law_bed.nd rfl (Or.inr rfl) (pe_lst (pa_cons (pe_callTy call_tuple_of rfl z_tuple b_tuple (pa_cons (pe_comp ["_law_cell_here"] [] rfl (pi_seq (pv 7)) (fun _ _ _ _ => (pg_name (i := 0) (show List.Nodup (["_law_cell_here"] : List Str) by decide +kernel) rfl (Or.inl rfl))) (fun _ _ _ _ => pifs_nil) (fun _ _ _ _ => (pe_tup (pa_cons pe_str (pa_cons (pe_cal c__law_letter hr (pa_cons (pe_op op_fdivL (pv 0) pe_int) pa_nil)) pa_nil)))) trivial rfl) pa_nil)) pa_nil)))) pss_nil)))))
      (pss_cons (ps_comp (i := 8) ["_law_key"] [("_law_layers", 5)] sc__law_bed.nd rfl rfl rfl (pi_range1 rfl z_range (pa_cons (pv 4) pa_nil)) (fun _ _ _ _ => (pg_name (i := 0) (show List.Nodup (["_law_key", "_law_layers"] : List Str) by decide +kernel) rfl (Or.inl rfl))) (fun _ _ _ _ => (pifs_one (pt_cmpR (op_eqD hu) (pe_ix ix_seq (pe_ix ix_seq (pe_ix ix_seq (pv 1) pe_int (fun _ _ => rfl)) (pv 0) (fun _ _ => rfl)) pe_int (fun _ _ => rfl)) pe_str (nomark _)))) (fun _ _ _ _ => (pv 0)) ⟨⟨rfl, rfl, Or.inl rfl⟩, trivial⟩ rfl)
      (pss_cons (ps_set (i := 9) sc__law_bed.nd rfl (Or.inl rfl) (pe_lst pa_nil))
      (pss_cons (ps_for PassesOwn.never rfl (pi_range1 rfl z_range (pa_cons (pe_ix ix_seq (pe_lst (pa_cons (pe_op op_mod (pe_cal c__law_wide hr (pa_cons (pe_cal c__law_cell hr (pa_cons (pv 0) (pa_cons (pe_op op_addA (pv 1) pe_int) pa_nil))) (pa_cons pe_int pa_nil))) pe_int) (pa_cons (pe_op op_addA pe_int (pe_op op_mod (pe_op op_fdivL (pv 2) pe_int) pe_int)) pa_nil))) (pe_callTy call_int1 rfl z_int b_int (pa_cons (pv 3) pa_nil)) (fun _ _ => rfl)) pa_nil)) (pg_name (i := 10) sc__law_bed.nd rfl (Or.inl rfl)) (pss_cons (ps_set (i := 11) sc__law_bed.nd rfl (Or.inr rfl) (pe_cal c__law_wide hr (pa_cons (pe_cal c__law_cell hr (pa_cons (pv 0) (pa_cons (pe_op op_addA (pe_op op_addA (pv 1) pe_int) (pv 10)) pa_nil))) (pa_cons (pe_op op_addA pe_int (pv 10)) pa_nil))))
      (pss_cons (ps_set (i := 12) sc__law_bed.nd rfl (Or.inl rfl) (pe_callTy call_tuple_of rfl z_tuple b_tuple (pa_cons (pe_comp ["_law_key"] [("_law_cell_here", 11)] rfl (pi_seq (pv 8)) (fun _ _ _ _ => (pg_name (i := 0) (show List.Nodup (["_law_key", "_law_cell_here"] : List Str) by decide +kernel) rfl (Or.inl rfl))) (fun _ _ _ _ => (pifs_one (pt_cmpR (op_eqD hu) (pe_op op_mod (pe_op op_fdivL (pv 1) (pe_ix ix_seq (pe_lst (pa_cons pe_int (pa_cons pe_int (pa_cons pe_int (pa_cons pe_int (pa_cons pe_int pa_nil)))))) (pv 0) (fun _ _ => rfl))) pe_int) pe_int (nomark _)))) (fun _ _ _ _ => (pv 0)) ⟨⟨rfl, rfl, Or.inl rfl⟩, trivial⟩ rfl) pa_nil)))
      (pss_cons us0
      (pss_one (ps_if (PW.pt (pw_and (pt_cmpR op_gt (pe_callB call_len rfl z_len b_len (pa_cons (pv 12) pa_nil)) pe_int (nomark _)) (pw_and1 (pt_cmpR (op_ninD hv) (pv 12) (pe_comp ["_law_chord"] [] rfl (pi_seq (pv 9)) (fun _ _ _ _ => (pg_name (i := 0) (show List.Nodup (["_law_chord"] : List Str) by decide +kernel) rfl (Or.inl rfl))) (fun _ _ _ _ => pifs_nil) (fun _ _ _ _ => (pe_ix ix_seq (pv 0) pe_int (fun _ _ => rfl))) trivial rfl) (by with_unfolding_all rfl))))) (pss_one (ps_expr (pe_bm PySem.F.plainAttrs_list PySem.F.slot_list_append PySem.F.type_list_append mt_append (pv 9) (pa_cons (pe_tup (pa_cons (pv 12) (pa_cons (pe_cal c__law_letter hr (pa_cons (pe_op op_fdivL (pv 11) pe_int) pa_nil)) pa_nil))) pa_nil)))) pss_nil))))))
      (pss_one (ps_ret (pe_tup (pa_cons (pv 4) (pa_cons (pe_callTy call_tuple_of rfl z_tuple b_tuple (pa_cons (pv 5) pa_nil)) (pa_cons (pe_callTy call_tuple_of rfl z_tuple b_tuple (pa_cons (pv 9) pa_nil)) (pa_cons (pe_op op_addA pe_int (pe_op op_mod (pe_op op_fdivL (pv 2) pe_int) pe_int)) pa_nil))))))))))))))))), (so_seq (so_asg (eo_cal (ao_cons eo_var (ao_cons eo_var ao_nil))) go_name)
      (so_seq (so_if (tto_or (tto_test (eo_op opp_lt eo_var eo_int)) (tto_test (eo_op opp_ge eo_var (eo_op opp_pow eo_int eo_int)))) (so_ret (eo_cal (ao_cons (eo_cal (ao_cons eo_var (ao_cons eo_int ao_nil))) ao_nil))) so_next)
      (so_seq (so_asg (eo_cal (ao_cons eo_var (ao_cons eo_var ao_nil))) go_name)
      (so_seq (so_asg (eo_op opp_eq (eo_op opp_mod (eo_op opp_div eo_var eo_int) eo_int) eo_int) go_name)
      (so_seq (so_asg (eo_op opp_ix (eo_lst (ao_cons (eo_op opp_add eo_int (eo_op opp_mod eo_var eo_int)) (ao_cons (eo_op opp_add eo_int (eo_op opp_mod eo_var eo_int)) ao_nil))) (eo_cb cb_int (ao_cons eo_var ao_nil))) go_name)
      (so_seq (so_asg (eo_lst ao_nil) go_name)
      (so_seq (so_for (io_rng1 (ao_cons (eo_op opp_add eo_int (eo_op opp_mod (eo_op opp_div eo_var eo_int) eo_int)) ao_nil)) go_name (so_seq (so_asg (eo_comp rfl rfl (io_rng1 (ao_cons eo_var ao_nil)) go_name tto_true (eo_cal (ao_cons (eo_cal (ao_cons eo_var (ao_cons (eo_op opp_add (eo_op opp_add (eo_op opp_add eo_var eo_int) (eo_op opp_mulE eo_int eo_var)) eo_var) ao_nil))) (ao_cons (eo_op opp_add (eo_op opp_mulE eo_int eo_var) eo_var) ao_nil)))) go_name)
      (so_seq (so_drop (eo_app (eo_cb cb_tuple (ao_cons (eo_compS rfl rfl ios_keep go_name tto_true (eo_cal (ao_cons eo_var (ao_cons eo_var (ao_cons (eo_op opp_add eo_int (eo_op opp_mod (eo_op opp_div eo_var eo_int) eo_int)) ao_nil))))) ao_nil))))
      (so_if (tto_and (tto_b eo_var) (tto_test (eo_op opp_eq eo_var eo_int))) (so_asg (eo_lst (ao_cons (eo_cb cb_tuple (ao_cons (eo_compS rfl rfl ios_keep go_name tto_true (eo_tup (ao_cons eo_str (ao_cons (eo_cal (ao_cons (eo_op opp_div eo_var eo_int) ao_nil)) ao_nil)))) ao_nil)) ao_nil)) go_name) so_next))))
      (so_seq (so_asg (eo_comp rfl rfl (io_rng1 (ao_cons eo_var ao_nil)) go_name (tto_test (eo_op opp_eq (eo_op opp_ix (eo_op opp_ix (eo_op opp_ix eo_var eo_int) eo_var) eo_int) eo_str)) eo_var) go_name)
      (so_seq (so_asg (eo_lst ao_nil) go_name)
      (so_seq (so_for (io_rng1 (ao_cons (eo_op opp_ix (eo_lst (ao_cons (eo_op opp_mod (eo_cal (ao_cons (eo_cal (ao_cons eo_var (ao_cons (eo_op opp_add eo_var eo_int) ao_nil))) (ao_cons eo_int ao_nil))) eo_int) (ao_cons (eo_op opp_add eo_int (eo_op opp_mod (eo_op opp_div eo_var eo_int) eo_int)) ao_nil))) (eo_cb cb_int (ao_cons eo_var ao_nil))) ao_nil)) go_name (so_seq (so_asg (eo_cal (ao_cons (eo_cal (ao_cons eo_var (ao_cons (eo_op opp_add (eo_op opp_add eo_var eo_int) eo_var) ao_nil))) (ao_cons (eo_op opp_add eo_int eo_var) ao_nil))) go_name)
      (so_seq (so_asg (eo_cb cb_tuple (ao_cons (eo_compS rfl rfl ios_keep go_name (tto_test (eo_op opp_eq (eo_op opp_mod (eo_op opp_div eo_var (eo_op opp_ix (eo_lst (ao_cons eo_int (ao_cons eo_int (ao_cons eo_int (ao_cons eo_int (ao_cons eo_int ao_nil)))))) eo_var)) eo_int) eo_int)) eo_var) ao_nil)) go_name)
      (so_seq vs0
      (so_if (tto_and (tto_test (eo_op opp_gt (eo_cb cb_len (ao_cons eo_var ao_nil)) eo_int)) (tto_test (eo_op opp_nin eo_var (eo_compS rfl rfl ios_keep go_name tto_true (eo_op opp_ix eo_var eo_int))))) (so_drop (eo_app (eo_tup (ao_cons eo_var (ao_cons (eo_cal (ao_cons (eo_op opp_div eo_var eo_int) ao_nil)) ao_nil))))) so_next)))))
      (so_ret (eo_tup (ao_cons eo_var (ao_cons (eo_cb cb_tuple (ao_cons eo_var ao_nil)) (ao_cons (eo_cb cb_tuple (ao_cons eo_var ao_nil)) (ao_cons (eo_op opp_add eo_int (eo_op opp_mod (eo_op opp_div eo_var eo_int) eo_int)) ao_nil))))))))))))))))⟩
theorem sc__law_word : FnScope ["_law_meaning_here"] ["_law_meaning_here"] (defScope (top 42)) := ⟨rfl, rfl, rfl, by decide +kernel, rfl, by decide +kernel, by decide +kernel⟩
theorem ok__law_word (F : Fun K "_law_word" "_law_word" (top 42) f fd) (z_str : mg "str" = none) : FnOk P w K mg base CX0 1 f fd ["_law_meaning_here"] (spP K 1 F__law_word) := by
  refine okF (k := 0) (n := 1) (m := 1) (g := g__law_word) (FF := F__law_word) F sc__law_word rfl rfl rfl (fun cdv A outer s H E hr => ?_)
  have hu := hr.units
  have hv : (A.deeper (PyProof.Rows.envOfC "_law_word" (defScope (top 42)) s.heap.objs.size f cdv)).units + 65 < cLine := by have := hr.un; omega
  obtain ⟨ti0, ui0, vi0⟩ : ∃ t, PE (cxOf CX0 P w K mg base ["_law_meaning_here"] "_law_word" (defScope (top 42)) f cdv A outer s H E).nox (ss (bl (rvE ((defBody (top 42)).getD 2 DP)))) t ∧ EO K E t (pOp ixD (pVar 0) (pC (.int 0))) := ⟨_, (pe_ix ix_seq (pv 0) pe_int (fun _ _ => rfl)), (eo_op opp_ix eo_var eo_int)⟩
  obtain ⟨tm0, um0, vm0⟩ : ∃ t, PE (cxOf CX0 P w K mg base ["_law_meaning_here"] "_law_word" (defScope (top 42)) f cdv A outer s H E).nox (br (rvE ((defBody (top 42)).getD 2 DP))) t ∧ EO K E t (pMs joinS (pC (.str "")) (aCons (pComp 1 [] (iSeq (pSl slD (pVar 0) (oSome (pC (.int 1))) oNone)) (gN 0) qTrue (pCB strS (aCons (pVar 0) aNil))) aNil)) := ⟨_, (pe_bm PySem.F.plainAttrs_str PySem.F.slot_str_join PySem.F.type_str_join mt_join pe_str (pa_cons (pe_comp ["_law_n"] [] rfl (pi_seq (pe_slice sl_any (pv 0) (po_some pe_int) po_none)) (fun _ _ _ _ => (pg_name (i := 0) (show List.Nodup (["_law_n"] : List Str) by decide +kernel) rfl (Or.inl rfl))) (fun _ _ _ _ => pifs_nil) (fun _ _ _ _ => (pe_callTy call_str_int rfl z_str b_str (pa_cons (pv 0) pa_nil))) trivial rfl) pa_nil)), (eo_ms ms_join eo_str (ao_cons (eo_comp rfl rfl (io_seq (eo_sl slp_any eo_var (too_some eo_int) too_none)) go_name tto_true (eo_cb cb_str (ao_cons eo_var ao_nil))) ao_nil))⟩
  have hp0 : PlainIx (ss (bl (rvE ((defBody (top 42)).getD 2 DP)))) := fun _ _ => rfl
  have hd0 : PyProof.Rows.litPairs (dK (sv (bl (rvE ((defBody (top 42)).getD 2 DP))))) (dV (sv (bl (rvE ((defBody (top 42)).getD 2 DP))))) = some [(PyData.str "layer", PyData.str ">"), (PyData.str "once", PyData.str "~"), (PyData.str "none", PyData.str "."), (PyData.str "below", PyData.str "_")] := rfl
  have hk0 : (dK (sv (bl (rvE ((defBody (top 42)).getD 2 DP))))).all (·.isSome) = true := rfl
  have hl0 : (dK (sv (bl (rvE ((defBody (top 42)).getD 2 DP))))).length = (dV (sv (bl (rvE ((defBody (top 42)).getD 2 DP))))).length := rfl
  have hn0 : (dK (sv (bl (rvE ((defBody (top 42)).getD 2 DP))))).length ≤ 15 := by decide +kernel
  have hz0 : (dK (sv (bl (rvE ((defBody (top 42)).getD 2 DP))))) ≠ [] := fun q => by have q := congrArg List.length q; exact absurd (show (4 : Nat) = 0 from q) (by decide)
  have hD0 : (sv (bl (rvE ((defBody (top 42)).getD 2 DP)))) = .Dict (dK (sv (bl (rvE ((defBody (top 42)).getD 2 DP))))) (dV (sv (bl (rvE ((defBody (top 42)).getD 2 DP))))) (dP (sv (bl (rvE ((defBody (top 42)).getD 2 DP))))) := rfl
  have hB0 : (bl (rvE ((defBody (top 42)).getD 2 DP))) = .Subscript (sv (bl (rvE ((defBody (top 42)).getD 2 DP)))) (ss (bl (rvE ((defBody (top 42)).getD 2 DP)))) (sP (bl (rvE ((defBody (top 42)).getD 2 DP)))) := rfl
  have hR0 : (rvE ((defBody (top 42)).getD 2 DP)) = .BinOp (bl (rvE ((defBody (top 42)).getD 2 DP))) .Add (br (rvE ((defBody (top 42)).getD 2 DP))) (bP (rvE ((defBody (top 42)).getD 2 DP))) := rfl
  have hS0 : ((defBody (top 42)).getD 2 DP) = .Return (some (rvE ((defBody (top 42)).getD 2 DP))) (rP ((defBody (top 42)).getD 2 DP)) := rfl
  obtain ⟨td0, ud0, vd0⟩ : ∃ t, PE (cxOf CX0 P w K mg base ["_law_meaning_here"] "_law_word" (defScope (top 42)) f cdv A outer s H E).nox (bl (rvE ((defBody (top 42)).getD 2 DP))) t ∧ EO K E t (pDl [(PyData.str "layer", PyData.str ">"), (PyData.str "once", PyData.str "~"), (PyData.str "none", PyData.str "."), (PyData.str "below", PyData.str "_")] (pOp ixD (pVar 0) (pC (.int 0)))) := by
    clear hR0 hS0 um0 vm0
    rw [hB0]
    generalize (ss (bl (rvE ((defBody (top 42)).getD 2 DP)))) = eI at *
    generalize sP (bl (rvE ((defBody (top 42)).getD 2 DP))) = pS at *
    clear hB0
    rw [hD0]
    generalize dK (sv (bl (rvE ((defBody (top 42)).getD 2 DP)))) = kD at *
    generalize dV (sv (bl (rvE ((defBody (top 42)).getD 2 DP)))) = vD at *
    generalize dP (sv (bl (rvE ((defBody (top 42)).getD 2 DP)))) = pD at *
    exact ⟨_, pe_dlit ui0 hd0 rfl (by decide +kernel) hk0 hl0 hz0 hn0 hp0, eo_dl vi0⟩
  obtain ⟨ts0, us0, vs0⟩ : ∃ t, PS (cxOf CX0 P w K mg base ["_law_meaning_here"] "_law_word" (defScope (top 42)) f cdv A outer s H E).nox ((defBody (top 42)).getD 2 DP) t ∧ SO K E t (sRet (pOp addS (pDl [(PyData.str "layer", PyData.str ">"), (PyData.str "once", PyData.str "~"), (PyData.str "none", PyData.str "."), (PyData.str "below", PyData.str "_")] (pOp ixD (pVar 0) (pC (.int 0)))) (pMs joinS (pC (.str "")) (aCons (pComp 1 [] (iSeq (pSl slD (pVar 0) (oSome (pC (.int 1))) oNone)) (gN 0) qTrue (pCB strS (aCons (pVar 0) aNil))) aNil)))) := by
    clear ui0 vi0 hp0 hd0 hk0 hl0 hn0 hz0 hD0 hB0
    rw [hS0]
    generalize rP ((defBody (top 42)).getD 2 DP) = pR at *
    clear hS0
    rw [hR0]
    generalize bP (rvE ((defBody (top 42)).getD 2 DP)) = pB at *
    generalize (br (rvE ((defBody (top 42)).getD 2 DP))) = eC at *
    generalize (bl (rvE ((defBody (top 42)).getD 2 DP))) = eB at *
    exact ⟨_, ps_ret (pe_op op_add_str ud0 um0), so_ret (eo_op opp_addS vd0 vm0)⟩
  exact ⟨_, (pss_cons (ps_if (pt_cmpR (op_eqD hu) (pe_ix ix_seq (pv 0) pe_int (fun _ _ => rfl)) pe_str (nomark _)) (pss_one (ps_ret (pe_ix ix_seq (pv 0) pe_int (fun _ _ => rfl)))) pss_nil)
      (pss_cons (ps_if (pt_cmpR (op_eqD hu) (pe_ix ix_seq (pv 0) pe_int (fun _ _ => rfl)) pe_str (nomark _)) (pss_one (ps_ret (pe_op op_add_str (pe_op op_add_str (pe_ix ix_seq (pv 0) pe_int (fun _ _ => rfl)) pe_str) (pe_callTy call_str_int rfl z_str b_str (pa_cons (pe_ix ix_seq (pv 0) pe_int (fun _ _ => rfl)) pa_nil))))) pss_nil)
      (pss_one us0))), (so_seq (so_if (tto_test (eo_op opp_eq (eo_op opp_ix eo_var eo_int) eo_str)) (so_ret (eo_op opp_ix eo_var eo_int)) so_next)
      (so_seq (so_if (tto_test (eo_op opp_eq (eo_op opp_ix eo_var eo_int) eo_str)) (so_ret (eo_op opp_addS (eo_op opp_addS (eo_op opp_ix eo_var eo_int) eo_str) (eo_cb cb_str (ao_cons (eo_op opp_ix eo_var eo_int) ao_nil)))) so_next)
      vs0))⟩
theorem sc__law_text : FnScope ["_law_bed_here", "_law_rows", "_law_layer", "_law_some", "_law_sign"] ["_law_bed_here"] (defScope (top 43)) := ⟨rfl, rfl, rfl, by decide +kernel, rfl, by decide +kernel, by decide +kernel⟩
theorem ok__law_text (F : Fun K "_law_text" "_law_text" (top 43) f fd) (c__law_word : CalP P w K mg base 1 "_law_word" ["_law_meaning_here"] 1 F__law_word) (z_str : mg "str" = none) : FnOk P w K mg base CX0 2 f fd ["_law_bed_here"] (spP K 1 F__law_text) := by
  refine okF (k := 1) (n := 1) (m := 5) (g := g__law_text) (FF := F__law_text) F sc__law_text rfl rfl rfl (fun cdv A outer s H E hr => ?_)
  have hu := hr.units
  have hv : (A.deeper (PyProof.Rows.envOfC "_law_text" (defScope (top 43)) s.heap.objs.size f cdv)).units + 65 < cLine := by have := hr.un; omega
  exact ⟨_, (pss_cons (ps_set (i := 1) sc__law_text.nd rfl (Or.inl rfl) (pe_lst (pa_cons (pe_op op_add_str (pe_op op_add_str (pe_op op_add_str pe_str (pe_callTy call_str_int rfl z_str b_str (pa_cons (pe_ix ix_seq (pv 0) pe_int (fun _ _ => rfl)) pa_nil))) pe_str) (pe_callTy call_str_int rfl z_str b_str (pa_cons (pe_ix ix_seq (pv 0) pe_int (fun _ _ => rfl)) pa_nil))) pa_nil)))
      (pss_cons (ps_for PassesOwn.never rfl (pi_seq (pe_ix ix_seq (pv 0) pe_int (fun _ _ => rfl))) (pg_name (i := 2) sc__law_text.nd rfl (Or.inl rfl)) (pss_one (ps_expr (pe_bm PySem.F.plainAttrs_list PySem.F.slot_list_append PySem.F.type_list_append mt_append (pv 1) (pa_cons (pe_op op_add_str pe_str (pe_bm PySem.F.plainAttrs_str PySem.F.slot_str_join PySem.F.type_str_join mt_join pe_str (pa_cons (pe_comp ["_law_meaning_here"] [] rfl (pi_seq (pv 2)) (fun _ _ _ _ => (pg_name (i := 0) (show List.Nodup (["_law_meaning_here"] : List Str) by decide +kernel) rfl (Or.inl rfl))) (fun _ _ _ _ => pifs_nil) (fun _ _ _ _ => (pe_cal c__law_word hr (pa_cons (pv 0) pa_nil))) trivial rfl) pa_nil))) pa_nil)))))
      (pss_cons (ps_for PassesOwn.never rfl (pi_seq (pe_ix ix_seq (pv 0) pe_int (fun _ _ => rfl))) (pg_tup rfl (pgs_cons (pg_name (i := 3) sc__law_text.nd rfl (Or.inl rfl)) (pgs_cons (pg_name (i := 4) sc__law_text.nd rfl (Or.inl rfl)) pgs_nil))) (pss_one (ps_expr (pe_bm PySem.F.plainAttrs_list PySem.F.slot_list_append PySem.F.type_list_append mt_append (pv 1) (pa_cons (pe_op op_add_str (pe_op op_add_str (pe_op op_add_str pe_str (pe_bm PySem.F.plainAttrs_str PySem.F.slot_str_join PySem.F.type_str_join mt_join pe_str (pa_cons (pe_comp ["_law_key"] [] rfl (pi_seq (pv 3)) (fun _ _ _ _ => (pg_name (i := 0) (show List.Nodup (["_law_key"] : List Str) by decide +kernel) rfl (Or.inl rfl))) (fun _ _ _ _ => pifs_nil) (fun _ _ _ _ => (pe_callTy call_str_int rfl z_str b_str (pa_cons (pv 0) pa_nil))) trivial rfl) pa_nil))) pe_str) (pv 4)) pa_nil)))))
      (pss_one (ps_ret (pe_bm PySem.F.plainAttrs_str PySem.F.slot_str_join PySem.F.type_str_join mt_join pe_str (pa_cons (pv 1) pa_nil))))))), (so_seq (so_asg (eo_lst (ao_cons (eo_op opp_addS (eo_op opp_addS (eo_op opp_addS eo_str (eo_cb cb_str (ao_cons (eo_op opp_ix eo_var eo_int) ao_nil))) eo_str) (eo_cb cb_str (ao_cons (eo_op opp_ix eo_var eo_int) ao_nil))) ao_nil)) go_name)
      (so_seq (so_for (io_seq (eo_op opp_ix eo_var eo_int)) go_name (so_drop (eo_app (eo_op opp_addS eo_str (eo_ms ms_join eo_str (ao_cons (eo_comp rfl rfl (io_seq eo_var) go_name tto_true (eo_cal (ao_cons eo_var ao_nil))) ao_nil))))))
      (so_seq (so_for (io_seq (eo_op opp_ix eo_var eo_int)) (go_tup (gs_cons go_name (gs_cons go_name gs_nil))) (so_drop (eo_app (eo_op opp_addS (eo_op opp_addS (eo_op opp_addS eo_str (eo_ms ms_join eo_str (ao_cons (eo_comp rfl rfl (io_seq eo_var) go_name tto_true (eo_cb cb_str (ao_cons eo_var ao_nil))) ao_nil))) eo_str) eo_var))))
      (so_ret (eo_ms ms_join eo_str (ao_cons eo_var ao_nil))))))⟩
theorem sc_shown_meaning : FnScope ["meaning", "word", "number"] ["meaning"] (defScope (top 29)) := ⟨rfl, rfl, rfl, by decide +kernel, rfl, by decide +kernel, by decide +kernel⟩
theorem ok_shown_meaning (F : Fun K "shown_meaning" "shown_meaning" (top 29) f fd) (z_str : mg "str" = none) : FnOk P w K mg base CX0 1 f fd ["meaning"] (spP K 1 F_shown_meaning) := by
  refine okF (k := 0) (n := 1) (m := 3) (g := g_shown_meaning) (FF := F_shown_meaning) F sc_shown_meaning rfl rfl rfl (fun cdv A outer s H E hr => ?_)
  have hu := hr.units
  have hv : (A.deeper (PyProof.Rows.envOfC "shown_meaning" (defScope (top 29)) s.heap.objs.size f cdv)).units + 65 < cLine := by have := hr.un; omega
  exact ⟨_, (pss_cons (ps_set (i := 1) sc_shown_meaning.nd rfl (Or.inl rfl) (pe_ix ix_seq (pv 0) pe_int (fun _ _ => rfl)))
      (pss_cons (ps_if (pt_cmpR (op_eqD hu) (pv 1) pe_str (nomark _)) (pss_one (ps_ret pe_str)) pss_nil)
      (pss_cons (ps_if (pt_cmpR (op_eqD hu) (pv 1) pe_str (nomark _)) (pss_one (ps_ret pe_str)) pss_nil)
      (pss_cons (ps_if (pt_cmpR (op_eqD hu) (pv 1) pe_str (nomark _)) (pss_one (ps_ret (pe_ix ix_seq (pv 0) pe_int (fun _ _ => rfl)))) pss_nil)
      (pss_cons (ps_set (i := 2) sc_shown_meaning.nd rfl (Or.inl rfl) (pe_callTy call_str_int rfl z_str b_str (pa_cons (pe_ix ix_seq (pv 0) (pe_un un_neg pe_int) (fun _ _ => rfl)) pa_nil)))
      (pss_cons (ps_if (pt_cmpR (op_eqD hu) (pv 1) pe_str (nomark _)) (pss_one (ps_ret (pe_op op_add_str pe_str (pv 2)))) pss_nil)
      (pss_cons (ps_if (pt_cmpR (op_eqD hu) (pv 1) pe_str (nomark _)) (pss_one (ps_ret (pe_op op_add_str pe_str (pv 2)))) pss_nil)
      (pss_one (ps_ret (pe_op op_add_str (pe_op op_add_str (pe_ix ix_seq (pv 0) pe_int (fun _ _ => rfl)) pe_str) (pv 2))))))))))), (so_seq (so_asg (eo_op opp_ix eo_var eo_int) go_name)
      (so_seq (so_if (tto_test (eo_op opp_eq eo_var eo_str)) (so_ret eo_str) so_next)
      (so_seq (so_if (tto_test (eo_op opp_eq eo_var eo_str)) (so_ret eo_str) so_next)
      (so_seq (so_if (tto_test (eo_op opp_eq eo_var eo_str)) (so_ret (eo_op opp_ix eo_var eo_int)) so_next)
      (so_seq (so_asg (eo_cb cb_str (ao_cons (eo_op opp_ix eo_var (eo_un unp_neg eo_int)) ao_nil)) go_name)
      (so_seq (so_if (tto_test (eo_op opp_eq eo_var eo_str)) (so_ret (eo_op opp_addS eo_str eo_var)) so_next)
      (so_seq (so_if (tto_test (eo_op opp_eq eo_var eo_str)) (so_ret (eo_op opp_addS eo_str eo_var)) so_next)
      (so_ret (eo_op opp_addS (eo_op opp_addS (eo_op opp_ix eo_var eo_int) eo_str) eo_var)))))))))⟩
theorem sc_shown_bed : FnScope ["bed", "keys", "wait", "rows", "layer", "chord"] ["bed"] (defScope (top 28)) := ⟨rfl, rfl, rfl, by decide +kernel, rfl, by decide +kernel, by decide +kernel⟩
theorem ok_shown_bed (F : Fun K "shown_bed" "shown_bed" (top 28) f fd) (c_shown_meaning : CalP P w K mg base 1 "shown_meaning" ["meaning"] 1 F_shown_meaning) (z_str : mg "str" = none) : FnOk P w K mg base CX0 2 f fd ["bed"] (spP K 1 F_shown_bed) := by
  refine okF (k := 1) (n := 1) (m := 6) (g := g_shown_bed) (FF := F_shown_bed) F sc_shown_bed rfl rfl rfl (fun cdv A outer s H E hr => ?_)
  have hu := hr.units
  have hv : (A.deeper (PyProof.Rows.envOfC "shown_bed" (defScope (top 28)) s.heap.objs.size f cdv)).units + 65 < cLine := by have := hr.un; omega
  exact ⟨_, (pss_cons (ps_set (i := 1) sc_shown_bed.nd rfl (Or.inl rfl) (pe_ix ix_seq (pv 0) pe_int (fun _ _ => rfl)))
      (pss_cons (ps_set (i := 2) sc_shown_bed.nd rfl (Or.inl rfl) (pe_ix ix_seq (pv 0) pe_int (fun _ _ => rfl)))
      (pss_cons (ps_set (i := 3) sc_shown_bed.nd rfl (Or.inl rfl) (pe_lst (pa_cons (pe_f2 (pv 1) (pv 2) (by decide +kernel)) pa_nil)))
      (pss_cons (ps_for PassesOwn.never rfl (pi_seq (pe_ix ix_seq (pv 0) pe_int (fun _ _ => rfl))) (pg_name (i := 4) sc_shown_bed.nd rfl (Or.inl rfl)) (pss_one (ps_expr (pe_bm PySem.F.plainAttrs_list PySem.F.slot_list_append PySem.F.type_list_append mt_append (pv 3) (pa_cons (pe_bm PySem.F.plainAttrs_str PySem.F.slot_str_join PySem.F.type_str_join mt_join pe_str (pa_cons (pe_op op_addA (pe_lst (pa_cons pe_str pa_nil)) (pe_comp ["meaning"] [] rfl (pi_seq (pv 4)) (fun _ _ _ _ => (pg_name (i := 0) (show List.Nodup (["meaning"] : List Str) by decide +kernel) rfl (Or.inl rfl))) (fun _ _ _ _ => pifs_nil) (fun _ _ _ _ => (pe_cal c_shown_meaning hr (pa_cons (pv 0) pa_nil))) trivial rfl)) pa_nil)) pa_nil)))))
      (pss_cons (ps_for PassesOwn.never rfl (pi_seq (pe_ix ix_seq (pv 0) pe_int (fun _ _ => rfl))) (pg_name (i := 5) sc_shown_bed.nd rfl (Or.inl rfl)) (pss_one (ps_expr (pe_bm PySem.F.plainAttrs_list PySem.F.slot_list_append PySem.F.type_list_append mt_append (pv 3) (pa_cons (pe_bm PySem.F.plainAttrs_str PySem.F.slot_str_join PySem.F.type_str_join mt_join pe_str (pa_cons (pe_lst (pa_cons pe_str (pa_cons (pe_bm PySem.F.plainAttrs_str PySem.F.slot_str_join PySem.F.type_str_join mt_join pe_str (pa_cons (pe_comp ["key"] [] rfl (pi_seq (pe_ix ix_seq (pv 5) pe_int (fun _ _ => rfl))) (fun _ _ _ _ => (pg_name (i := 0) (show List.Nodup (["key"] : List Str) by decide +kernel) rfl (Or.inl rfl))) (fun _ _ _ _ => pifs_nil) (fun _ _ _ _ => (pe_callTy call_str_int rfl z_str b_str (pa_cons (pv 0) pa_nil))) trivial rfl) pa_nil)) (pa_cons (pe_ix ix_seq (pv 5) pe_int (fun _ _ => rfl)) pa_nil)))) pa_nil)) pa_nil)))))
      (pss_one (ps_ret (pe_bm PySem.F.plainAttrs_str PySem.F.slot_str_join PySem.F.type_str_join mt_join pe_str (pa_cons (pv 3) pa_nil))))))))), (so_seq (so_asg (eo_op opp_ix eo_var eo_int) go_name)
      (so_seq (so_asg (eo_op opp_ix eo_var eo_int) go_name)
      (so_seq (so_asg (eo_lst (ao_cons (eo_f2 eo_var eo_var) ao_nil)) go_name)
      (so_seq (so_for (io_seq (eo_op opp_ix eo_var eo_int)) go_name (so_drop (eo_app (eo_ms ms_join eo_str (ao_cons (eo_op opp_add (eo_lst (ao_cons eo_str ao_nil)) (eo_comp rfl rfl (io_seq eo_var) go_name tto_true (eo_cal (ao_cons eo_var ao_nil)))) ao_nil)))))
      (so_seq (so_for (io_seq (eo_op opp_ix eo_var eo_int)) go_name (so_drop (eo_app (eo_ms ms_join eo_str (ao_cons (eo_lst (ao_cons eo_str (ao_cons (eo_ms ms_join eo_str (ao_cons (eo_comp rfl rfl (io_seq (eo_op opp_ix eo_var eo_int)) go_name tto_true (eo_cb cb_str (ao_cons eo_var ao_nil))) ao_nil)) (ao_cons (eo_op opp_ix eo_var eo_int) ao_nil)))) ao_nil)))))
      (so_ret (eo_ms ms_join eo_str (ao_cons eo_var ao_nil))))))))⟩
theorem sc_read_number : FnScope ["word"] ["word"] (defScope (top 27)) := ⟨rfl, rfl, rfl, by decide +kernel, rfl, by decide +kernel, by decide +kernel⟩
theorem ok_read_number (F : Fun K "read_number" "read_number" (top 27) f fd) (z_len : mg "len" = none) (z_all : mg "all" = none) (z_int : mg "int" = none) {t_FIGURES : Tok} (m_FIGURES : mg "FIGURES" = some (.str "0123456789" t_FIGURES)) : FnOk P w K mg base CX0 1 f fd ["word"] (spP K 1 F_read_number) := by
  refine okF (k := 0) (n := 1) (m := 1) (g := g_read_number) (FF := F_read_number) F sc_read_number rfl rfl rfl (fun cdv A outer s H E hr => ?_)
  have hu := hr.units
  have hv : (A.deeper (PyProof.Rows.envOfC "read_number" (defScope (top 27)) s.heap.objs.size f cdv)).units + 65 < cLine := by have := hr.un; omega
  exact ⟨_, (pss_cons (ps_if (PW.pt (pw_or (pt_not (pt_chain op_le op_le pe_int (pe_callB call_len rfl z_len b_len (pa_cons (pv 0) pa_nil)) pe_int)) (pw_or1 (pt_not (pt_val (pe_callB (call_all rfl) rfl z_all b_all (pa_cons (pe_comp ["sign"] [] rfl (pi_str (pv 0)) (fun _ _ _ _ => (pg_name (i := 0) (show List.Nodup (["sign"] : List Str) by decide +kernel) rfl (Or.inl rfl))) (fun _ _ _ _ => pifs_nil) (fun _ _ _ _ => (pe_cmpR op_inS (pv 0) (pe_glob (v := .str "0123456789") rfl m_FIGURES ⟨_, rfl⟩) (by with_unfolding_all rfl))) trivial rfl) pa_nil))))))) (pss_one (ps_ret pe_non)) pss_nil)
      (pss_cons (ps_if (PW.pt (pw_and (pt_cmpR (op_eqD hu) (pe_callB call_len rfl z_len b_len (pa_cons (pv 0) pa_nil)) pe_int (nomark _)) (pw_and1 (pt_cmpR (op_eqD hu) (pe_ix ix_seq (pv 0) pe_int (fun _ _ => rfl)) pe_str (nomark _))))) (pss_one (ps_ret pe_non)) pss_nil)
      (pss_one (ps_ret (pe_callTy call_intS rfl z_int b_int (pa_cons (pv 0) pa_nil)))))), (so_seq (so_if (tto_or (tto_not (tto_test (eo_chain opp_le opp_le eo_int (eo_cb cb_lenS (ao_cons eo_var ao_nil)) eo_int))) (tto_not (tto_b (eo_cb cb_all (ao_cons (eo_comp rfl rfl (io_signs eo_var) go_name tto_true (eo_op opp_inS eo_var eo_str)) ao_nil))))) (so_ret eo_non) so_next)
      (so_seq (so_if (tto_and (tto_test (eo_op opp_eq (eo_cb cb_lenS (ao_cons eo_var ao_nil)) eo_int)) (tto_test (eo_op opp_eq (eo_op opp_ixS eo_var eo_int) eo_str))) (so_ret eo_non) so_next)
      (so_ret (eo_cb cb_intS (ao_cons eo_var ao_nil)))))⟩
theorem sc_all_read : FnScope ["values"] ["values"] (defScope (top 24)) := ⟨rfl, rfl, rfl, by decide +kernel, rfl, by decide +kernel, by decide +kernel⟩
theorem ok_all_read (F : Fun K "all_read" "all_read" (top 24) f fd) (z_tuple : mg "tuple" = none) : FnOk P w K mg base CX0 1 f fd ["values"] (spP K 1 F_all_read) := by
  refine okF (k := 0) (n := 1) (m := 1) (g := g_all_read) (FF := F_all_read) F sc_all_read rfl rfl rfl (fun cdv A outer s H E hr => ?_)
  have hu := hr.units
  have hv : (A.deeper (PyProof.Rows.envOfC "all_read" (defScope (top 24)) s.heap.objs.size f cdv)).units + 65 < cLine := by have := hr.un; omega
  exact ⟨_, (pss_cons (ps_if (pt_cmpR (op_inD hv) pe_non (pv 0) (by with_unfolding_all rfl)) (pss_one (ps_ret pe_non)) pss_nil)
      (pss_one (ps_ret (pe_callTy call_tuple_of rfl z_tuple b_tuple (pa_cons (pv 0) pa_nil))))), (so_seq (so_if (tto_test (eo_op opp_in eo_non eo_var)) (so_ret eo_non) so_next)
      (so_ret (eo_cb cb_tuple (ao_cons eo_var ao_nil))))⟩
theorem sc_read_numbers : FnScope ["words"] ["words"] (defScope (top 21)) := ⟨rfl, rfl, rfl, by decide +kernel, rfl, by decide +kernel, by decide +kernel⟩
theorem ok_read_numbers (F : Fun K "read_numbers" "read_numbers" (top 21) f fd) (c_read_number : CalP P w K mg base 1 "read_number" ["word"] 1 F_read_number) (c_all_read : CalP P w K mg base 1 "all_read" ["values"] 1 F_all_read) (z_len : mg "len" = none) : FnOk P w K mg base CX0 2 f fd ["words"] (spP K 1 F_read_numbers) := by
  refine okF (k := 1) (n := 1) (m := 1) (g := g_read_numbers) (FF := F_read_numbers) F sc_read_numbers rfl rfl rfl (fun cdv A outer s H E hr => ?_)
  have hu := hr.units
  have hv : (A.deeper (PyProof.Rows.envOfC "read_numbers" (defScope (top 21)) s.heap.objs.size f cdv)).units + 65 < cLine := by have := hr.un; omega
  exact ⟨_, (pss_cons (ps_if (PW.pt (pw_or (pt_cmpR (op_neD hu) (pe_callB call_len rfl z_len b_len (pa_cons (pv 0) pa_nil)) pe_int (nomark _)) (pw_or (pt_cmpR (op_neD hu) (pe_ix ix_seq (pv 0) pe_int (fun _ _ => rfl)) pe_str (nomark _)) (pw_or1 (pt_cmpR (op_neD hu) (pe_ix ix_seq (pv 0) pe_int (fun _ _ => rfl)) pe_str (nomark _)))))) (pss_one (ps_ret pe_non)) pss_nil)
      (pss_one (ps_ret (pe_cal c_all_read hr (pa_cons (pe_lst (pa_cons (pe_cal c_read_number hr (pa_cons (pe_ix ix_seq (pv 0) pe_int (fun _ _ => rfl)) pa_nil)) (pa_cons (pe_cal c_read_number hr (pa_cons (pe_ix ix_seq (pv 0) pe_int (fun _ _ => rfl)) pa_nil)) pa_nil))) pa_nil))))), (so_seq (so_if (tto_or (tto_test (eo_op opp_ne (eo_cb cb_len (ao_cons eo_var ao_nil)) eo_int)) (tto_or (tto_test (eo_op opp_ne (eo_op opp_ix eo_var eo_int) eo_str)) (tto_test (eo_op opp_ne (eo_op opp_ix eo_var eo_int) eo_str)))) (so_ret eo_non) so_next)
      (so_ret (eo_cal (ao_cons (eo_lst (ao_cons (eo_cal (ao_cons (eo_op opp_ix eo_var eo_int) ao_nil)) (ao_cons (eo_cal (ao_cons (eo_op opp_ix eo_var eo_int) ao_nil)) ao_nil))) ao_nil))))⟩
theorem sc_is_letter : FnScope ["text"] ["text"] (defScope (top 17)) := ⟨rfl, rfl, rfl, by decide +kernel, rfl, by decide +kernel, by decide +kernel⟩
theorem ok_is_letter (F : Fun K "is_letter" "is_letter" (top 17) f fd) (z_len : mg "len" = none) : FnOk P w K mg base CX0 1 f fd ["text"] (spP K 1 F_is_letter) := by
  refine okF (k := 0) (n := 1) (m := 1) (g := g_is_letter) (FF := F_is_letter) F sc_is_letter rfl rfl rfl (fun cdv A outer s H E hr => ?_)
  have hu := hr.units
  have hv : (A.deeper (PyProof.Rows.envOfC "is_letter" (defScope (top 17)) s.heap.objs.size f cdv)).units + 65 < cLine := by have := hr.un; omega
  exact ⟨_, (pss_one (ps_ret (pe_and (pe_cmpR (op_eqD hu) (pe_callB call_len rfl z_len b_len (pa_cons (pv 0) pa_nil)) pe_int (nomark _)) (pe_one (pe_chain op_leS op_leS pe_str (pv 0) pe_str))))), (so_ret (eo_and (eo_op opp_eq (eo_cb cb_lenS (ao_cons eo_var ao_nil)) eo_int) (eo_chain opp_leS opp_leS eo_str eo_var eo_str)))⟩
theorem sc_read_meaning : FnScope ["word"] ["word"] (defScope (top 25)) := ⟨rfl, rfl, rfl, by decide +kernel, rfl, by decide +kernel, by decide +kernel⟩
theorem ok_read_meaning (F : Fun K "read_meaning" "read_meaning" (top 25) f fd) (c_is_letter : CalP P w K mg base 1 "is_letter" ["text"] 1 F_is_letter) (c_read_number : CalP P w K mg base 1 "read_number" ["word"] 1 F_read_number) (c_all_read : CalP P w K mg base 1 "all_read" ["values"] 1 F_all_read) : FnOk P w K mg base CX0 2 f fd ["word"] (spP K 1 F_read_meaning) := by
  refine okF (k := 1) (n := 1) (m := 1) (g := g_read_meaning) (FF := F_read_meaning) F sc_read_meaning rfl rfl rfl (fun cdv A outer s H E hr => ?_)
  have hu := hr.units
  have hv : (A.deeper (PyProof.Rows.envOfC "read_meaning" (defScope (top 25)) s.heap.objs.size f cdv)).units + 65 < cLine := by have := hr.un; omega
  exact ⟨_, (pss_cons (ps_if (pt_cmpR (op_eqD hu) (pv 0) pe_str (nomark _)) (pss_one (ps_ret (pe_tup (pa_cons pe_str pa_nil)))) pss_nil)
      (pss_cons (ps_if (pt_cmpR (op_eqD hu) (pv 0) pe_str (nomark _)) (pss_one (ps_ret (pe_tup (pa_cons pe_str pa_nil)))) pss_nil)
      (pss_cons (ps_if (pt_val (pe_cal c_is_letter hr (pa_cons (pv 0) pa_nil))) (pss_one (ps_ret (pe_tup (pa_cons pe_str (pa_cons (pv 0) pa_nil))))) pss_nil)
      (pss_cons (ps_if (pt_val (pe_bm PySem.F.plainAttrs_str PySem.F.slot_str_startswith PySem.F.type_str_startswith mt_starts (pv 0) (pa_cons pe_str pa_nil))) (pss_one (ps_ret (pe_cal c_all_read hr (pa_cons (pe_lst (pa_cons pe_str (pa_cons (pe_cal c_read_number hr (pa_cons (pe_slice sl_str (pv 0) (po_some pe_int) po_none) pa_nil)) pa_nil))) pa_nil)))) pss_nil)
      (pss_cons (ps_if (pt_val (pe_bm PySem.F.plainAttrs_str PySem.F.slot_str_startswith PySem.F.type_str_startswith mt_starts (pv 0) (pa_cons pe_str pa_nil))) (pss_one (ps_ret (pe_cal c_all_read hr (pa_cons (pe_lst (pa_cons pe_str (pa_cons (pe_cal c_read_number hr (pa_cons (pe_slice sl_str (pv 0) (po_some pe_int) po_none) pa_nil)) pa_nil))) pa_nil)))) pss_nil)
      (pss_cons (ps_if (PW.pt (pw_and (pt_val (pe_cal c_is_letter hr (pa_cons (pe_slice sl_str (pv 0) po_none (po_some pe_int)) pa_nil))) (pw_and1 (pt_cmpR (op_eqD hu) (pe_slice sl_str (pv 0) (po_some pe_int) (po_some pe_int)) pe_str (nomark _))))) (pss_one (ps_ret (pe_cal c_all_read hr (pa_cons (pe_lst (pa_cons pe_str (pa_cons (pe_ix ix_seq (pv 0) pe_int (fun _ _ => rfl)) (pa_cons (pe_cal c_read_number hr (pa_cons (pe_slice sl_str (pv 0) (po_some pe_int) po_none) pa_nil)) pa_nil)))) pa_nil)))) pss_nil)
      (pss_one (ps_ret pe_non)))))))), (so_seq (so_if (tto_test (eo_op opp_eq eo_var eo_str)) (so_ret (eo_tup (ao_cons eo_str ao_nil))) so_next)
      (so_seq (so_if (tto_test (eo_op opp_eq eo_var eo_str)) (so_ret (eo_tup (ao_cons eo_str ao_nil))) so_next)
      (so_seq (so_if (tto_b (eo_cal (ao_cons eo_var ao_nil))) (so_ret (eo_tup (ao_cons eo_str (ao_cons eo_var ao_nil)))) so_next)
      (so_seq (so_if (tto_b (eo_ms ms_starts eo_var (ao_cons eo_str ao_nil))) (so_ret (eo_cal (ao_cons (eo_lst (ao_cons eo_str (ao_cons (eo_cal (ao_cons (eo_sl slp_str eo_var (too_some eo_int) too_none) ao_nil)) ao_nil))) ao_nil))) so_next)
      (so_seq (so_if (tto_b (eo_ms ms_starts eo_var (ao_cons eo_str ao_nil))) (so_ret (eo_cal (ao_cons (eo_lst (ao_cons eo_str (ao_cons (eo_cal (ao_cons (eo_sl slp_str eo_var (too_some eo_int) too_none) ao_nil)) ao_nil))) ao_nil))) so_next)
      (so_seq (so_if (tto_and (tto_b (eo_cal (ao_cons (eo_sl slp_str eo_var too_none (too_some eo_int)) ao_nil))) (tto_test (eo_op opp_eq (eo_sl slp_str eo_var (too_some eo_int) (too_some eo_int)) eo_str))) (so_ret (eo_cal (ao_cons (eo_lst (ao_cons eo_str (ao_cons (eo_op opp_ixS eo_var eo_int) (ao_cons (eo_cal (ao_cons (eo_sl slp_str eo_var (too_some eo_int) too_none) ao_nil)) ao_nil)))) ao_nil))) so_next)
      (so_ret eo_non)))))))⟩
theorem sc_read_layer : FnScope ["words"] ["words"] (defScope (top 22)) := ⟨rfl, rfl, rfl, by decide +kernel, rfl, by decide +kernel, by decide +kernel⟩
theorem ok_read_layer (F : Fun K "read_layer" "read_layer" (top 22) f fd) (c_read_meaning : CalP P w K mg base 2 "read_meaning" ["word"] 1 F_read_meaning) (c_all_read : CalP P w K mg base 1 "all_read" ["values"] 1 F_all_read) (z_len : mg "len" = none) : FnOk P w K mg base CX0 3 f fd ["words"] (spP K 1 F_read_layer) := by
  refine okF (k := 2) (n := 1) (m := 1) (g := g_read_layer) (FF := F_read_layer) F sc_read_layer rfl rfl rfl (fun cdv A outer s H E hr => ?_)
  have hu := hr.units
  have hv : (A.deeper (PyProof.Rows.envOfC "read_layer" (defScope (top 22)) s.heap.objs.size f cdv)).units + 65 < cLine := by have := hr.un; omega
  exact ⟨_, (pss_cons (ps_if (PW.pt (pw_or (pt_cmpR op_lt (pe_callB call_len rfl z_len b_len (pa_cons (pv 0) pa_nil)) pe_int (nomark _)) (pw_or1 (pt_cmpR (op_neD hu) (pe_ix ix_seq (pv 0) pe_int (fun _ _ => rfl)) pe_str (nomark _))))) (pss_one (ps_ret pe_non)) pss_nil)
      (pss_one (ps_ret (pe_cal c_all_read hr (pa_cons (pe_comp ["word"] [] rfl (pi_seq (pe_slice sl_any (pv 0) (po_some pe_int) po_none)) (fun _ _ _ _ => (pg_name (i := 0) (show List.Nodup (["word"] : List Str) by decide +kernel) rfl (Or.inl rfl))) (fun _ _ _ _ => pifs_nil) (fun _ _ _ _ => (pe_cal c_read_meaning hr (pa_cons (pv 0) pa_nil))) trivial rfl) pa_nil))))), (so_seq (so_if (tto_or (tto_test (eo_op opp_lt (eo_cb cb_len (ao_cons eo_var ao_nil)) eo_int)) (tto_test (eo_op opp_ne (eo_op opp_ix eo_var eo_int) eo_str))) (so_ret eo_non) so_next)
      (so_ret (eo_cal (ao_cons (eo_comp rfl rfl (io_seq (eo_sl slp_any eo_var (too_some eo_int) too_none)) go_name tto_true (eo_cal (ao_cons eo_var ao_nil))) ao_nil))))⟩
theorem sc_read_parted : FnScope ["text", "sign"] ["text", "sign"] (defScope (top 26)) := ⟨rfl, rfl, rfl, by decide +kernel, rfl, by decide +kernel, by decide +kernel⟩
theorem ok_read_parted (F : Fun K "read_parted" "read_parted" (top 26) f fd) (c_read_number : CalP P w K mg base 1 "read_number" ["word"] 1 F_read_number) (c_all_read : CalP P w K mg base 1 "all_read" ["values"] 1 F_all_read) : FnOk P w K mg base CX0 2 f fd ["text", "sign"] (spP K 2 F_read_parted) := by
  refine okF (k := 1) (n := 2) (m := 2) (g := g_read_parted) (FF := F_read_parted) F sc_read_parted rfl rfl rfl (fun cdv A outer s H E hr => ?_)
  have hu := hr.units
  have hv : (A.deeper (PyProof.Rows.envOfC "read_parted" (defScope (top 26)) s.heap.objs.size f cdv)).units + 65 < cLine := by have := hr.un; omega
  exact ⟨_, (pss_one (ps_ret (pe_cal c_all_read hr (pa_cons (pe_comp ["word"] [] rfl (pi_seq (pe_bm PySem.F.plainAttrs_str PySem.F.slot_str_split PySem.F.type_str_split mt_split (pv 0) (pa_cons (pv 1) pa_nil))) (fun _ _ _ _ => (pg_name (i := 0) (show List.Nodup (["word"] : List Str) by decide +kernel) rfl (Or.inl rfl))) (fun _ _ _ _ => pifs_nil) (fun _ _ _ _ => (pe_cal c_read_number hr (pa_cons (pv 0) pa_nil))) trivial rfl) pa_nil)))), (so_ret (eo_cal (ao_cons (eo_comp rfl rfl (io_seq (eo_ms ms_split eo_var (ao_cons eo_var ao_nil))) go_name tto_true (eo_cal (ao_cons eo_var ao_nil))) ao_nil)))⟩
theorem sc_read_chord : FnScope ["words", "keys"] ["words"] (defScope (top 23)) := ⟨rfl, rfl, rfl, by decide +kernel, rfl, by decide +kernel, by decide +kernel⟩
theorem ok_read_chord (F : Fun K "read_chord" "read_chord" (top 23) f fd) (c_is_letter : CalP P w K mg base 1 "is_letter" ["text"] 1 F_is_letter) (c_read_parted : CalP P w K mg base 2 "read_parted" ["text", "sign"] 2 F_read_parted) (z_len : mg "len" = none) : FnOk P w K mg base CX0 3 f fd ["words"] (spP K 1 F_read_chord) := by
  refine okF (k := 2) (n := 1) (m := 2) (g := g_read_chord) (FF := F_read_chord) F sc_read_chord rfl rfl rfl (fun cdv A outer s H E hr => ?_)
  have hu := hr.units
  have hv : (A.deeper (PyProof.Rows.envOfC "read_chord" (defScope (top 23)) s.heap.objs.size f cdv)).units + 65 < cLine := by have := hr.un; omega
  exact ⟨_, (pss_cons (ps_if (PW.pt (pw_or (pt_cmpR (op_neD hu) (pe_callB call_len rfl z_len b_len (pa_cons (pv 0) pa_nil)) pe_int (nomark _)) (pw_or (pt_cmpR (op_neD hu) (pe_ix ix_seq (pv 0) pe_int (fun _ _ => rfl)) pe_str (nomark _)) (pw_or1 (pt_not (pt_val (pe_cal c_is_letter hr (pa_cons (pe_ix ix_seq (pv 0) pe_int (fun _ _ => rfl)) pa_nil)))))))) (pss_one (ps_ret pe_non)) pss_nil)
      (pss_cons (ps_set (i := 1) sc_read_chord.nd rfl (Or.inl rfl) (pe_cal c_read_parted hr (pa_cons (pe_ix ix_seq (pv 0) pe_int (fun _ _ => rfl)) (pa_cons pe_str pa_nil))))
      (pss_cons (ps_if (pt_cmpR op_isN (pv 1) pe_non (nomark _)) (pss_one (ps_ret pe_non)) pss_nil)
      (pss_one (ps_ret (pe_tup (pa_cons (pv 1) (pa_cons (pe_ix ix_seq (pv 0) pe_int (fun _ _ => rfl)) pa_nil)))))))), (so_seq (so_if (tto_or (tto_test (eo_op opp_ne (eo_cb cb_len (ao_cons eo_var ao_nil)) eo_int)) (tto_or (tto_test (eo_op opp_ne (eo_op opp_ix eo_var eo_int) eo_str)) (tto_not (tto_b (eo_cal (ao_cons (eo_op opp_ix eo_var eo_int) ao_nil)))))) (so_ret eo_non) so_next)
      (so_seq (so_asg (eo_cal (ao_cons (eo_op opp_ix eo_var eo_int) (ao_cons eo_str ao_nil))) go_name)
      (so_seq (so_if (tto_test (eo_op opp_isn eo_var eo_non)) (so_ret eo_non) so_next)
      (so_ret (eo_tup (ao_cons eo_var (ao_cons (eo_op opp_ix eo_var eo_int) ao_nil)))))))⟩
theorem sc_check_numbers : FnScope ["bed"] ["bed"] (defScope (top 11)) := ⟨rfl, rfl, rfl, by decide +kernel, rfl, by decide +kernel, by decide +kernel⟩
theorem ok_check_numbers (F : Fun K "check_numbers" "check_numbers" (top 11) f fd) (z_len : mg "len" = none) {t_MOST_KEYS : Tok} (m_MOST_KEYS : mg "MOST_KEYS" = some (.int 5 t_MOST_KEYS)) {t_MOST_LAYERS : Tok} (m_MOST_LAYERS : mg "MOST_LAYERS" = some (.int 3 t_MOST_LAYERS)) {t_MOST_CHORDS : Tok} (m_MOST_CHORDS : mg "MOST_CHORDS" = some (.int 4 t_MOST_CHORDS)) {t_MOST_WAIT : Tok} (m_MOST_WAIT : mg "MOST_WAIT" = some (.int 4 t_MOST_WAIT)) : FnOk P w K mg base CX0 1 f fd ["bed"] (spP K 1 F_check_numbers) := by
  refine okF (k := 0) (n := 1) (m := 1) (g := g_check_numbers) (FF := F_check_numbers) F sc_check_numbers rfl rfl rfl (fun cdv A outer s H E hr => ?_)
  have hu := hr.units
  have hv : (A.deeper (PyProof.Rows.envOfC "check_numbers" (defScope (top 11)) s.heap.objs.size f cdv)).units + 65 < cLine := by have := hr.un; omega
  exact ⟨_, (pss_cons (ps_if (PW.pt (pw_or (pt_not (pt_chain op_le op_le pe_int (pe_ix ix_seq (pv 0) pe_int (fun _ _ => rfl)) (pe_glob (v := .int 5) rfl m_MOST_KEYS ⟨_, rfl⟩))) (pw_or1 (pt_not (pt_chain op_le op_le pe_int (pe_callB call_len rfl z_len b_len (pa_cons (pe_ix ix_seq (pv 0) pe_int (fun _ _ => rfl)) pa_nil)) (pe_glob (v := .int 3) rfl m_MOST_LAYERS ⟨_, rfl⟩)))))) (pss_one ps_never) pss_nil)
      (pss_one (ps_if (PW.pt (pw_or (pt_cmpR op_gt (pe_callB call_len rfl z_len b_len (pa_cons (pe_ix ix_seq (pv 0) pe_int (fun _ _ => rfl)) pa_nil)) (pe_glob (v := .int 4) rfl m_MOST_CHORDS ⟨_, rfl⟩) (nomark _)) (pw_or1 (pt_not (pt_chain op_le op_le pe_int (pe_ix ix_seq (pv 0) pe_int (fun _ _ => rfl)) (pe_glob (v := .int 4) rfl m_MOST_WAIT ⟨_, rfl⟩)))))) (pss_one ps_never) pss_nil))), (so_seq (so_if (tto_or (tto_not (tto_test (eo_chain opp_le opp_le eo_int (eo_op opp_ix eo_var eo_int) eo_int))) (tto_not (tto_test (eo_chain opp_le opp_le eo_int (eo_cb cb_len (ao_cons (eo_op opp_ix eo_var eo_int) ao_nil)) eo_int)))) so_never so_next)
      (so_if (tto_or (tto_test (eo_op opp_gt (eo_cb cb_len (ao_cons (eo_op opp_ix eo_var eo_int) ao_nil)) eo_int)) (tto_not (tto_test (eo_chain opp_le opp_le eo_int (eo_op opp_ix eo_var eo_int) eo_int)))) so_never so_next))⟩
theorem sc_may_mean : FnScope ["meaning", "layer", "layers", "word"] ["meaning", "layer", "layers"] (defScope (top 13)) := ⟨rfl, rfl, rfl, by decide +kernel, rfl, by decide +kernel, by decide +kernel⟩
theorem ok_may_mean (F : Fun K "may_mean" "may_mean" (top 13) f fd) (c_is_letter : CalP P w K mg base 1 "is_letter" ["text"] 1 F_is_letter) : FnOk P w K mg base CX0 2 f fd ["meaning", "layer", "layers"] (spP K 3 F_may_mean) := by
  refine okF (k := 1) (n := 3) (m := 4) (g := g_may_mean) (FF := F_may_mean) F sc_may_mean rfl rfl rfl (fun cdv A outer s H E hr => ?_)
  have hu := hr.units
  have hv : (A.deeper (PyProof.Rows.envOfC "may_mean" (defScope (top 13)) s.heap.objs.size f cdv)).units + 65 < cLine := by have := hr.un; omega
  exact ⟨_, (pss_cons (ps_set (i := 3) sc_may_mean.nd rfl (Or.inl rfl) (pe_ix ix_seq (pv 0) pe_int (fun _ _ => rfl)))
      (pss_cons (ps_if (pt_cmpR (op_eqD hu) (pv 3) pe_str (nomark _)) (pss_one (ps_ret (pe_cmpR (op_neD hu) (pv 1) pe_int (nomark _)))) pss_nil)
      (pss_cons (ps_if (PW.pt (pw_and (pt_cmpR (op_inD hv) (pv 3) (pe_tup (pa_cons pe_str (pa_cons pe_str pa_nil))) (by with_unfolding_all rfl)) (pw_and1 (pt_not (pt_val (pe_cal c_is_letter hr (pa_cons (pe_ix ix_seq (pv 0) pe_int (fun _ _ => rfl)) pa_nil))))))) (pss_one (ps_ret pe_bl)) pss_nil)
      (pss_cons (ps_if (pt_cmpR (op_inD hv) (pv 3) (pe_tup (pa_cons pe_str (pa_cons pe_str (pa_cons pe_str pa_nil)))) (by with_unfolding_all rfl)) (pss_one (ps_ret (pe_chain op_le op_lt pe_int (pe_ix ix_seq (pv 0) (pe_un un_neg pe_int) (fun _ _ => rfl)) (pv 2)))) pss_nil)
      (pss_one (ps_ret pe_bl)))))), (so_seq (so_asg (eo_op opp_ix eo_var eo_int) go_name)
      (so_seq (so_if (tto_test (eo_op opp_eq eo_var eo_str)) (so_ret (eo_op opp_ne eo_var eo_int)) so_next)
      (so_seq (so_if (tto_and (tto_test (eo_op opp_in eo_var (eo_tup (ao_cons eo_str (ao_cons eo_str ao_nil))))) (tto_not (tto_b (eo_cal (ao_cons (eo_op opp_ix eo_var eo_int) ao_nil))))) (so_ret eo_bl) so_next)
      (so_seq (so_if (tto_test (eo_op opp_in eo_var (eo_tup (ao_cons eo_str (ao_cons eo_str (ao_cons eo_str ao_nil)))))) (so_ret (eo_chain opp_le opp_lt eo_int (eo_op opp_ix eo_var (eo_un unp_neg eo_int)) eo_var)) so_next)
      (so_ret eo_bl)))))⟩
theorem sc_check_layer : FnScope ["bed", "layer", "meanings", "key", "meaning"] ["bed", "layer"] (defScope (top 12)) := ⟨rfl, rfl, rfl, by decide +kernel, rfl, by decide +kernel, by decide +kernel⟩
theorem ok_check_layer (F : Fun K "check_layer" "check_layer" (top 12) f fd) (c_may_mean : CalP P w K mg base 2 "may_mean" ["meaning", "layer", "layers"] 3 F_may_mean) (z_len : mg "len" = none) (z_enumerate : mg "enumerate" = none) : FnOk P w K mg base CX0 3 f fd ["bed", "layer"] (spP K 2 F_check_layer) := by
  refine okF (k := 2) (n := 2) (m := 5) (g := g_check_layer) (FF := F_check_layer) F sc_check_layer rfl rfl rfl (fun cdv A outer s H E hr => ?_)
  have hu := hr.units
  have hv : (A.deeper (PyProof.Rows.envOfC "check_layer" (defScope (top 12)) s.heap.objs.size f cdv)).units + 65 < cLine := by have := hr.un; omega
  exact ⟨_, (pss_cons (ps_set (i := 2) sc_check_layer.nd rfl (Or.inl rfl) (pe_ix ix_seq (pe_ix ix_seq (pv 0) pe_int (fun _ _ => rfl)) (pv 1) (fun _ _ => rfl)))
      (pss_cons (ps_if (pt_cmpR (op_neD hu) (pe_callB call_len rfl z_len b_len (pa_cons (pv 2) pa_nil)) (pe_ix ix_seq (pv 0) pe_int (fun _ _ => rfl)) (nomark _)) (pss_one ps_never) pss_nil)
      (pss_one (ps_for PassesOwn.never rfl (pi_enumA rfl z_enumerate (pa_cons (pv 2) pa_nil)) (pg_tup rfl (pgs_cons (pg_name (i := 3) sc_check_layer.nd rfl (Or.inl rfl)) (pgs_cons (pg_name (i := 4) sc_check_layer.nd rfl (Or.inl rfl)) pgs_nil))) (pss_one (ps_if (pt_not (pt_val (pe_cal c_may_mean hr (pa_cons (pv 4) (pa_cons (pv 1) (pa_cons (pe_callB call_len rfl z_len b_len (pa_cons (pe_ix ix_seq (pv 0) pe_int (fun _ _ => rfl)) pa_nil)) pa_nil)))))) (pss_one ps_never) pss_nil)))))), (so_seq (so_asg (eo_op opp_ix (eo_op opp_ix eo_var eo_int) eo_var) go_name)
      (so_seq (so_if (tto_test (eo_op opp_ne (eo_cb cb_len (ao_cons eo_var ao_nil)) (eo_op opp_ix eo_var eo_int))) so_never so_next)
      (so_for (io_enum (ao_cons eo_var ao_nil)) (go_tup (gs_cons go_name (gs_cons go_name gs_nil))) (so_if (tto_not (tto_b (eo_cal (ao_cons eo_var (ao_cons eo_var (ao_cons (eo_cb cb_len (ao_cons (eo_op opp_ix eo_var eo_int) ao_nil)) ao_nil)))))) so_never so_next))))⟩
theorem sc_rises : FnScope ["keys"] ["keys"] (defScope (top 16)) := ⟨rfl, rfl, rfl, by decide +kernel, rfl, by decide +kernel, by decide +kernel⟩
theorem ok_rises (F : Fun K "rises" "rises" (top 16) f fd) (z_all : mg "all" = none) (z_zip : mg "zip" = none) : FnOk P w K mg base CX0 1 f fd ["keys"] (spP K 1 F_rises) := by
  refine okF (k := 0) (n := 1) (m := 1) (g := g_rises) (FF := F_rises) F sc_rises rfl rfl rfl (fun cdv A outer s H E hr => ?_)
  have hu := hr.units
  have hv : (A.deeper (PyProof.Rows.envOfC "rises" (defScope (top 16)) s.heap.objs.size f cdv)).units + 65 < cLine := by have := hr.un; omega
  exact ⟨_, (pss_one (ps_ret (pe_callB (call_all rfl) rfl z_all b_all (pa_cons (pe_comp ["one", "other"] [] rfl (pi_zip rfl z_zip (pa_cons (pv 0) (pa_cons (pe_slice sl_any (pv 0) (po_some pe_int) po_none) pa_nil))) (fun _ _ _ _ => (pg_tup rfl (pgs_cons (pg_name (i := 0) (show List.Nodup (["one", "other"] : List Str) by decide +kernel) rfl (Or.inl rfl)) (pgs_cons (pg_name (i := 1) (show List.Nodup (["one", "other"] : List Str) by decide +kernel) rfl (Or.inl rfl)) pgs_nil)))) (fun _ _ _ _ => pifs_nil) (fun _ _ _ _ => (pe_cmpR op_lt (pv 0) (pv 1) (nomark _))) trivial rfl) pa_nil)))), (so_ret (eo_cb cb_all (ao_cons (eo_comp rfl rfl (io_zip (ao_cons eo_var (ao_cons (eo_sl slp_any eo_var (too_some eo_int) too_none) ao_nil))) (go_tup (gs_cons go_name (gs_cons go_name gs_nil))) tto_true (eo_op opp_lt eo_var eo_var)) ao_nil)))⟩
theorem sc_is_chord_set : FnScope ["bed", "keys"] ["bed", "keys"] (defScope (top 15)) := ⟨rfl, rfl, rfl, by decide +kernel, rfl, by decide +kernel, by decide +kernel⟩
theorem ok_is_chord_set (F : Fun K "is_chord_set" "is_chord_set" (top 15) f fd) (c_rises : CalP P w K mg base 1 "rises" ["keys"] 1 F_rises) (z_len : mg "len" = none) (z_all : mg "all" = none) : FnOk P w K mg base CX0 2 f fd ["bed", "keys"] (spP K 2 F_is_chord_set) := by
  refine okF (k := 1) (n := 2) (m := 2) (g := g_is_chord_set) (FF := F_is_chord_set) F sc_is_chord_set rfl rfl rfl (fun cdv A outer s H E hr => ?_)
  have hu := hr.units
  have hv : (A.deeper (PyProof.Rows.envOfC "is_chord_set" (defScope (top 15)) s.heap.objs.size f cdv)).units + 65 < cLine := by have := hr.un; omega
  exact ⟨_, (pss_cons (ps_if (PW.pt (pw_or (pt_cmpR op_lt (pe_callB call_len rfl z_len b_len (pa_cons (pv 1) pa_nil)) pe_int (nomark _)) (pw_or1 (pt_not (pt_val (pe_cal c_rises hr (pa_cons (pv 1) pa_nil))))))) (pss_one (ps_ret pe_bl)) pss_nil)
      (pss_one (ps_ret (pe_callB (call_all rfl) rfl z_all b_all (pa_cons (pe_comp ["key"] [("bed", 0)] rfl (pi_seq (pv 1)) (fun _ _ _ _ => (pg_name (i := 0) (show List.Nodup (["key", "bed"] : List Str) by decide +kernel) rfl (Or.inl rfl))) (fun _ _ _ _ => pifs_nil) (fun _ _ _ _ => (pe_and (pe_chain op_le op_lt pe_int (pv 0) (pe_ix ix_seq (pv 1) pe_int (fun _ _ => rfl))) (pe_one (pe_cmpR (op_eqD hu) (pe_ix ix_seq (pe_ix ix_seq (pe_ix ix_seq (pe_ix ix_seq (pv 1) pe_int (fun _ _ => rfl)) pe_int (fun _ _ => rfl)) (pv 0) (fun _ _ => rfl)) pe_int (fun _ _ => rfl)) pe_str (nomark _))))) ⟨⟨rfl, rfl, Or.inl rfl⟩, trivial⟩ rfl) pa_nil))))), (so_seq (so_if (tto_or (tto_test (eo_op opp_lt (eo_cb cb_len (ao_cons eo_var ao_nil)) eo_int)) (tto_not (tto_b (eo_cal (ao_cons eo_var ao_nil))))) (so_ret eo_bl) so_next)
      (so_ret (eo_cb cb_all (ao_cons (eo_comp rfl rfl (io_seq eo_var) go_name tto_true (eo_and (eo_chain opp_le opp_lt eo_int eo_var (eo_op opp_ix eo_var eo_int)) (eo_op opp_eq (eo_op opp_ix (eo_op opp_ix (eo_op opp_ix (eo_op opp_ix eo_var eo_int) eo_int) eo_var) eo_int) eo_str))) ao_nil))))⟩
theorem sc_check_chord : FnScope ["bed", "place", "keys"] ["bed", "place"] (defScope (top 14)) := ⟨rfl, rfl, rfl, by decide +kernel, rfl, by decide +kernel, by decide +kernel⟩
theorem ok_check_chord (F : Fun K "check_chord" "check_chord" (top 14) f fd) (c_is_letter : CalP P w K mg base 1 "is_letter" ["text"] 1 F_is_letter) (c_is_chord_set : CalP P w K mg base 2 "is_chord_set" ["bed", "keys"] 2 F_is_chord_set) : FnOk P w K mg base CX0 3 f fd ["bed", "place"] (spP K 2 F_check_chord) := by
  refine okF (k := 2) (n := 2) (m := 3) (g := g_check_chord) (FF := F_check_chord) F sc_check_chord rfl rfl rfl (fun cdv A outer s H E hr => ?_)
  have hu := hr.units
  have hv : (A.deeper (PyProof.Rows.envOfC "check_chord" (defScope (top 14)) s.heap.objs.size f cdv)).units + 65 < cLine := by have := hr.un; omega
  exact ⟨_, (pss_cons (ps_set (i := 2) sc_check_chord.nd rfl (Or.inl rfl) (pe_ix ix_seq (pe_ix ix_seq (pe_ix ix_seq (pv 0) pe_int (fun _ _ => rfl)) (pv 1) (fun _ _ => rfl)) pe_int (fun _ _ => rfl)))
      (pss_cons (ps_if (PW.pt (pw_or (pt_not (pt_val (pe_cal c_is_letter hr (pa_cons (pe_ix ix_seq (pe_ix ix_seq (pe_ix ix_seq (pv 0) pe_int (fun _ _ => rfl)) (pv 1) (fun _ _ => rfl)) pe_int (fun _ _ => rfl)) pa_nil)))) (pw_or1 (pt_not (pt_val (pe_cal c_is_chord_set hr (pa_cons (pv 0) (pa_cons (pv 2) pa_nil)))))))) (pss_one ps_never) pss_nil)
      (pss_one (ps_if (pt_cmpR (op_inD hv) (pv 2) (pe_comp ["chord"] [] rfl (pi_seq (pe_slice sl_any (pe_ix ix_seq (pv 0) pe_int (fun _ _ => rfl)) po_none (po_some (pv 1)))) (fun _ _ _ _ => (pg_name (i := 0) (show List.Nodup (["chord"] : List Str) by decide +kernel) rfl (Or.inl rfl))) (fun _ _ _ _ => pifs_nil) (fun _ _ _ _ => (pe_ix ix_seq (pv 0) pe_int (fun _ _ => rfl))) trivial rfl) (by with_unfolding_all rfl)) (pss_one ps_never) pss_nil)))), (so_seq (so_asg (eo_op opp_ix (eo_op opp_ix (eo_op opp_ix eo_var eo_int) eo_var) eo_int) go_name)
      (so_seq (so_if (tto_or (tto_not (tto_b (eo_cal (ao_cons (eo_op opp_ix (eo_op opp_ix (eo_op opp_ix eo_var eo_int) eo_var) eo_int) ao_nil)))) (tto_not (tto_b (eo_cal (ao_cons eo_var (ao_cons eo_var ao_nil)))))) so_never so_next)
      (so_if (tto_test (eo_op opp_in eo_var (eo_comp rfl rfl (io_seq (eo_sl slp_any (eo_op opp_ix eo_var eo_int) too_none (too_some eo_var))) go_name tto_true (eo_op opp_ix eo_var eo_int)))) so_never so_next)))⟩
theorem sc_checked : FnScope ["bed", "layer", "place"] ["bed"] (defScope (top 10)) := ⟨rfl, rfl, rfl, by decide +kernel, rfl, by decide +kernel, by decide +kernel⟩
theorem ok_checked (F : Fun K "checked" "checked" (top 10) f fd) (c_check_numbers : CalP P w K mg base 1 "check_numbers" ["bed"] 1 F_check_numbers) (c_check_layer : CalP P w K mg base 3 "check_layer" ["bed", "layer"] 2 F_check_layer) (c_check_chord : CalP P w K mg base 3 "check_chord" ["bed", "place"] 2 F_check_chord) (z_range : mg "range" = none) (z_len : mg "len" = none) : FnOk P w K mg base CX0 4 f fd ["bed"] (spP K 1 F_checked) := by
  refine okF (k := 3) (n := 1) (m := 3) (g := g_checked) (FF := F_checked) F sc_checked rfl rfl rfl (fun cdv A outer s H E hr => ?_)
  have hu := hr.units
  have hv : (A.deeper (PyProof.Rows.envOfC "checked" (defScope (top 10)) s.heap.objs.size f cdv)).units + 65 < cLine := by have := hr.un; omega
  exact ⟨_, (pss_cons (ps_expr (pe_cal c_check_numbers hr (pa_cons (pv 0) pa_nil)))
      (pss_cons (ps_for PassesOwn.never rfl (pi_range1 rfl z_range (pa_cons (pe_callB call_len rfl z_len b_len (pa_cons (pe_ix ix_seq (pv 0) pe_int (fun _ _ => rfl)) pa_nil)) pa_nil)) (pg_name (i := 1) sc_checked.nd rfl (Or.inl rfl)) (pss_one (ps_expr (pe_cal c_check_layer hr (pa_cons (pv 0) (pa_cons (pv 1) pa_nil))))))
      (pss_cons (ps_for PassesOwn.never rfl (pi_range1 rfl z_range (pa_cons (pe_callB call_len rfl z_len b_len (pa_cons (pe_ix ix_seq (pv 0) pe_int (fun _ _ => rfl)) pa_nil)) pa_nil)) (pg_name (i := 2) sc_checked.nd rfl (Or.inl rfl)) (pss_one (ps_expr (pe_cal c_check_chord hr (pa_cons (pv 0) (pa_cons (pv 2) pa_nil))))))
      (pss_one (ps_ret (pv 0)))))), (so_seq (so_drop (eo_cal (ao_cons eo_var ao_nil)))
      (so_seq (so_for (io_rng1 (ao_cons (eo_cb cb_len (ao_cons (eo_op opp_ix eo_var eo_int) ao_nil)) ao_nil)) go_name (so_drop (eo_cal (ao_cons eo_var (ao_cons eo_var ao_nil)))))
      (so_seq (so_for (io_rng1 (ao_cons (eo_cb cb_len (ao_cons (eo_op opp_ix eo_var eo_int) ao_nil)) ao_nil)) go_name (so_drop (eo_cal (ao_cons eo_var (ao_cons eo_var ao_nil)))))
      (so_ret eo_var))))⟩
theorem sc_read_bed : FnScope ["text", "rows", "numbers", "layers", "chords", "place", "row", "words", "layer", "chord"] ["text"] (defScope (top 20)) := ⟨rfl, rfl, rfl, by decide +kernel, rfl, by decide +kernel, by decide +kernel⟩
theorem ok_read_bed (F : Fun K "read_bed" "read_bed" (top 20) f fd) (c_read_numbers : CalP P w K mg base 2 "read_numbers" ["words"] 1 F_read_numbers) (c_read_layer : CalP P w K mg base 3 "read_layer" ["words"] 1 F_read_layer) (c_read_chord : CalP P w K mg base 3 "read_chord" ["words"] 1 F_read_chord) (c_checked : CalP P w K mg base 4 "checked" ["bed"] 1 F_checked) (z_enumerate : mg "enumerate" = none) (z_tuple : mg "tuple" = none) : FnOk P w K mg base CX0 5 f fd ["text"] (spP K 1 F_read_bed) := by
  refine okF (k := 4) (n := 1) (m := 10) (g := g_read_bed) (FF := F_read_bed) F sc_read_bed rfl rfl rfl (fun cdv A outer s H E hr => ?_)
  have hu := hr.units
  have hv : (A.deeper (PyProof.Rows.envOfC "read_bed" (defScope (top 20)) s.heap.objs.size f cdv)).units + 65 < cLine := by have := hr.un; omega
  exact ⟨_, (pss_cons (ps_set (i := 1) sc_read_bed.nd rfl (Or.inl rfl) (pe_bm PySem.F.plainAttrs_str PySem.F.slot_str_split PySem.F.type_str_split mt_split (pv 0) (pa_cons pe_str pa_nil)))
      (pss_cons (ps_set (i := 2) sc_read_bed.nd rfl (Or.inl rfl) (pe_cal c_read_numbers hr (pa_cons (pe_bm PySem.F.plainAttrs_str PySem.F.slot_str_split PySem.F.type_str_split mt_split (pe_ix ix_seq (pv 1) pe_int (fun _ _ => rfl)) (pa_cons pe_str pa_nil)) pa_nil)))
      (pss_cons (ps_if (pt_cmpR op_isN (pv 2) pe_non (nomark _)) (pss_one ps_never) pss_nil)
      (pss_cons (ps_set (i := 3) sc_read_bed.nd rfl (Or.inl rfl) (pe_lst pa_nil))
      (pss_cons (ps_set (i := 4) sc_read_bed.nd rfl (Or.inl rfl) (pe_lst pa_nil))
      (pss_cons (ps_for PassesOwn.never rfl (pi_enum1 rfl z_enumerate (pa_cons (pe_slice sl_any (pv 1) (po_some pe_int) po_none) pa_nil)) (pg_tup rfl (pgs_cons (pg_name (i := 5) sc_read_bed.nd rfl (Or.inl rfl)) (pgs_cons (pg_name (i := 6) sc_read_bed.nd rfl (Or.inl rfl)) pgs_nil))) (pss_cons (ps_set (i := 7) sc_read_bed.nd rfl (Or.inl rfl) (pe_bm PySem.F.plainAttrs_str PySem.F.slot_str_split PySem.F.type_str_split mt_split (pv 6) (pa_cons pe_str pa_nil)))
      (pss_cons (ps_set (i := 8) sc_read_bed.nd rfl (Or.inl rfl) (pe_cal c_read_layer hr (pa_cons (pv 7) pa_nil)))
      (pss_cons (ps_set (i := 9) sc_read_bed.nd rfl (Or.inl rfl) (pe_cal c_read_chord hr (pa_cons (pv 7) pa_nil)))
      (pss_one (ps_if (PW.pt (pw_and (pt_cmpR op_notN (pv 8) pe_non (nomark _)) (pw_and1 (pt_cmpR (op_eqD hu) (pv 4) (pe_lst pa_nil) (nomark _))))) (pss_one (ps_expr (pe_bm PySem.F.plainAttrs_list PySem.F.slot_list_append PySem.F.type_list_append mt_append (pv 3) (pa_cons (pv 8) pa_nil)))) (pss_one (ps_if (pt_cmpR op_notN (pv 9) pe_non (nomark _)) (pss_one (ps_expr (pe_bm PySem.F.plainAttrs_list PySem.F.slot_list_append PySem.F.type_list_append mt_append (pv 4) (pa_cons (pv 9) pa_nil)))) (pss_one ps_never)))))))))
      (pss_one (ps_ret (pe_cal c_checked hr (pa_cons (pe_tup (pa_cons (pe_ix ix_seq (pv 2) pe_int (fun _ _ => rfl)) (pa_cons (pe_callTy call_tuple_of rfl z_tuple b_tuple (pa_cons (pv 3) pa_nil)) (pa_cons (pe_callTy call_tuple_of rfl z_tuple b_tuple (pa_cons (pv 4) pa_nil)) (pa_cons (pe_ix ix_seq (pv 2) pe_int (fun _ _ => rfl)) pa_nil))))) pa_nil)))))))))), (so_seq (so_asg (eo_ms ms_split eo_var (ao_cons eo_str ao_nil)) go_name)
      (so_seq (so_asg (eo_cal (ao_cons (eo_ms ms_split (eo_op opp_ix eo_var eo_int) (ao_cons eo_str ao_nil)) ao_nil)) go_name)
      (so_seq (so_if (tto_test (eo_op opp_isn eo_var eo_non)) so_never so_next)
      (so_seq (so_asg (eo_lst ao_nil) go_name)
      (so_seq (so_asg (eo_lst ao_nil) go_name)
      (so_seq (so_for (io_enum1 (ao_cons (eo_sl slp_any eo_var (too_some eo_int) too_none) ao_nil)) (go_tup (gs_cons go_name (gs_cons go_name gs_nil))) (so_seq (so_asg (eo_ms ms_split eo_var (ao_cons eo_str ao_nil)) go_name)
      (so_seq (so_asg (eo_cal (ao_cons eo_var ao_nil)) go_name)
      (so_seq (so_asg (eo_cal (ao_cons eo_var ao_nil)) go_name)
      (so_if (tto_and (tto_test (eo_op opp_ntn eo_var eo_non)) (tto_test (eo_op opp_eq eo_var (eo_lst ao_nil)))) (so_drop (eo_app eo_var)) (so_if (tto_test (eo_op opp_ntn eo_var eo_non)) (so_drop (eo_app eo_var)) so_never))))))
      (so_ret (eo_cal (ao_cons (eo_tup (ao_cons (eo_op opp_ix eo_var eo_int) (ao_cons (eo_cb cb_tuple (ao_cons eo_var ao_nil)) (ao_cons (eo_cb cb_tuple (ao_cons eo_var ao_nil)) (ao_cons (eo_op opp_ix eo_var eo_int) ao_nil))))) ao_nil)))))))))⟩
theorem sc__law_whole : FnScope ["_law_thing"] ["_law_thing"] (defScope (top 35)) := ⟨rfl, rfl, rfl, by decide +kernel, rfl, by decide +kernel, by decide +kernel⟩
theorem ok__law_whole (F : Fun K "_law_whole" "_law_whole" (top 35) f fd) (z_isinstance : mg "isinstance" = none) (z_int : mg "int" = none) (z_bool : mg "bool" = none) : FnOk P w K mg base CX0 1 f fd ["_law_thing"] (spP K 1 F__law_whole) := by
  refine okF (k := 0) (n := 1) (m := 1) (g := g__law_whole) (FF := F__law_whole) F sc__law_whole rfl rfl rfl (fun cdv A outer s H E hr => ?_)
  have hu := hr.units
  have hv : (A.deeper (PyProof.Rows.envOfC "_law_whole" (defScope (top 35)) s.heap.objs.size f cdv)).units + 65 < cLine := by have := hr.un; omega
  exact ⟨_, (pss_one (ps_ret (pe_and (pe_callB call_isiA rfl z_isinstance b_isinstance (pa_cons (pv 0) (pa_cons (pe_bltn (v := .ty "int") rfl z_int b_int rfl) pa_nil))) (pe_one (pe_not (pe_callB call_isiA rfl z_isinstance b_isinstance (pa_cons (pv 0) (pa_cons (pe_bltn (v := .ty "bool") rfl z_bool b_bool rfl) pa_nil)))))))), (so_ret (eo_and (eo_isi (by simp) eo_var) (eo_not (eo_isi (by simp) eo_var))))⟩
theorem sc__law_like : FnScope ["_law_found", "_law_due"] ["_law_found", "_law_due"] (defScope (top 41)) := ⟨rfl, rfl, rfl, by decide +kernel, rfl, by decide +kernel, by decide +kernel⟩
theorem ok__law_like_1 (F : Fun K "_law_like" "_law_like" (top 41) f fd) (c__law_whole : CalP P w K mg base 1 "_law_whole" ["_law_thing"] 1 F__law_whole) (z_isinstance : mg "isinstance" = none) (z_tuple : mg "tuple" = none) (z_len : mg "len" = none) (z_all : mg "all" = none) (z_zip : mg "zip" = none) (z_str : mg "str" = none) (c__law_like : CalP P w K mg base 1 "_law_like" ["_law_found", "_law_due"] 2 F__law_like_0) : FnOk P w K mg base CX0 2 f fd ["_law_found", "_law_due"] (spP K 2 F__law_like_1) := by
  refine okF (k := 1) (n := 2) (m := 2) (g := g__law_like F__law_like_0) (FF := F__law_like_1) F sc__law_like rfl rfl rfl (fun cdv A outer s H E hr => ?_)
  have hu := hr.units
  have hv : (A.deeper (PyProof.Rows.envOfC "_law_like" (defScope (top 41)) s.heap.objs.size f cdv)).units + 65 < cLine := by have := hr.un; omega
  exact ⟨_, (pss_cons (ps_if (pt_val (pe_callB call_isiA rfl z_isinstance b_isinstance (pa_cons (pv 1) (pa_cons (pe_bltn (v := .ty "tuple") rfl z_tuple b_tuple rfl) pa_nil)))) (pss_cons (ps_if (PW.pt (pw_or (pt_not (pt_val (pe_callB call_isiA rfl z_isinstance b_isinstance (pa_cons (pv 0) (pa_cons (pe_bltn (v := .ty "tuple") rfl z_tuple b_tuple rfl) pa_nil))))) (pw_or1 (pt_cmpR (op_neD hu) (pe_callB call_len rfl z_len b_len (pa_cons (pv 0) pa_nil)) (pe_callB call_len rfl z_len b_len (pa_cons (pv 1) pa_nil)) (nomark _))))) (pss_one (ps_ret pe_bl)) pss_nil)
      (pss_one (ps_ret (pe_callB (call_all rfl) rfl z_all b_all (pa_cons (pe_comp ["_law_one", "_law_other"] [] rfl (pi_zip rfl z_zip (pa_cons (pv 0) (pa_cons (pv 1) pa_nil))) (fun _ _ _ _ => (pg_tup rfl (pgs_cons (pg_name (i := 0) (show List.Nodup (["_law_one", "_law_other"] : List Str) by decide +kernel) rfl (Or.inl rfl)) (pgs_cons (pg_name (i := 1) (show List.Nodup (["_law_one", "_law_other"] : List Str) by decide +kernel) rfl (Or.inl rfl)) pgs_nil)))) (fun _ _ _ _ => pifs_nil) (fun _ _ _ _ => (pe_cal c__law_like hr (pa_cons (pv 0) (pa_cons (pv 1) pa_nil)))) trivial rfl) pa_nil))))) pss_nil)
      (pss_cons (ps_if (pt_val (pe_callB call_isiA rfl z_isinstance b_isinstance (pa_cons (pv 1) (pa_cons (pe_bltn (v := .ty "str") rfl z_str b_str rfl) pa_nil)))) (pss_one (ps_ret (pe_and (pe_callB call_isiA rfl z_isinstance b_isinstance (pa_cons (pv 0) (pa_cons (pe_bltn (v := .ty "str") rfl z_str b_str rfl) pa_nil))) (pe_one (pe_cmpR (op_eqD hu) (pv 0) (pv 1) (nomark _)))))) pss_nil)
      (pss_one (ps_ret (pe_and (pe_cal c__law_whole hr (pa_cons (pv 0) pa_nil)) (pe_one (pe_cmpR (op_eqD hu) (pv 0) (pv 1) (nomark _)))))))), (so_seq (so_if (tto_b (eo_isi (by simp) eo_var)) (so_seq (so_if (tto_or (tto_not (tto_b (eo_isi (by simp) eo_var))) (tto_test (eo_op opp_ne (eo_cb cb_len (ao_cons eo_var ao_nil)) (eo_cb cb_len (ao_cons eo_var ao_nil))))) (so_ret eo_bl) so_next)
      (so_ret (eo_cb cb_all (ao_cons (eo_comp rfl rfl (io_zip (ao_cons eo_var (ao_cons eo_var ao_nil))) (go_tup (gs_cons go_name (gs_cons go_name gs_nil))) tto_true (eo_cal (ao_cons eo_var (ao_cons eo_var ao_nil)))) ao_nil)))) so_next)
      (so_seq (so_if (tto_b (eo_isi (by simp) eo_var)) (so_ret (eo_and (eo_isi (by simp) eo_var) (eo_op opp_eq eo_var eo_var))) so_next)
      (so_ret (eo_and (eo_cal (ao_cons eo_var ao_nil)) (eo_op opp_eq eo_var eo_var)))))⟩
theorem ok__law_like_2 (F : Fun K "_law_like" "_law_like" (top 41) f fd) (c__law_whole : CalP P w K mg base 1 "_law_whole" ["_law_thing"] 1 F__law_whole) (z_isinstance : mg "isinstance" = none) (z_tuple : mg "tuple" = none) (z_len : mg "len" = none) (z_all : mg "all" = none) (z_zip : mg "zip" = none) (z_str : mg "str" = none) (c__law_like : CalP P w K mg base 2 "_law_like" ["_law_found", "_law_due"] 2 F__law_like_1) : FnOk P w K mg base CX0 3 f fd ["_law_found", "_law_due"] (spP K 2 F__law_like_2) := by
  refine okF (k := 2) (n := 2) (m := 2) (g := g__law_like F__law_like_1) (FF := F__law_like_2) F sc__law_like rfl rfl rfl (fun cdv A outer s H E hr => ?_)
  have hu := hr.units
  have hv : (A.deeper (PyProof.Rows.envOfC "_law_like" (defScope (top 41)) s.heap.objs.size f cdv)).units + 65 < cLine := by have := hr.un; omega
  exact ⟨_, (pss_cons (ps_if (pt_val (pe_callB call_isiA rfl z_isinstance b_isinstance (pa_cons (pv 1) (pa_cons (pe_bltn (v := .ty "tuple") rfl z_tuple b_tuple rfl) pa_nil)))) (pss_cons (ps_if (PW.pt (pw_or (pt_not (pt_val (pe_callB call_isiA rfl z_isinstance b_isinstance (pa_cons (pv 0) (pa_cons (pe_bltn (v := .ty "tuple") rfl z_tuple b_tuple rfl) pa_nil))))) (pw_or1 (pt_cmpR (op_neD hu) (pe_callB call_len rfl z_len b_len (pa_cons (pv 0) pa_nil)) (pe_callB call_len rfl z_len b_len (pa_cons (pv 1) pa_nil)) (nomark _))))) (pss_one (ps_ret pe_bl)) pss_nil)
      (pss_one (ps_ret (pe_callB (call_all rfl) rfl z_all b_all (pa_cons (pe_comp ["_law_one", "_law_other"] [] rfl (pi_zip rfl z_zip (pa_cons (pv 0) (pa_cons (pv 1) pa_nil))) (fun _ _ _ _ => (pg_tup rfl (pgs_cons (pg_name (i := 0) (show List.Nodup (["_law_one", "_law_other"] : List Str) by decide +kernel) rfl (Or.inl rfl)) (pgs_cons (pg_name (i := 1) (show List.Nodup (["_law_one", "_law_other"] : List Str) by decide +kernel) rfl (Or.inl rfl)) pgs_nil)))) (fun _ _ _ _ => pifs_nil) (fun _ _ _ _ => (pe_cal c__law_like hr (pa_cons (pv 0) (pa_cons (pv 1) pa_nil)))) trivial rfl) pa_nil))))) pss_nil)
      (pss_cons (ps_if (pt_val (pe_callB call_isiA rfl z_isinstance b_isinstance (pa_cons (pv 1) (pa_cons (pe_bltn (v := .ty "str") rfl z_str b_str rfl) pa_nil)))) (pss_one (ps_ret (pe_and (pe_callB call_isiA rfl z_isinstance b_isinstance (pa_cons (pv 0) (pa_cons (pe_bltn (v := .ty "str") rfl z_str b_str rfl) pa_nil))) (pe_one (pe_cmpR (op_eqD hu) (pv 0) (pv 1) (nomark _)))))) pss_nil)
      (pss_one (ps_ret (pe_and (pe_cal c__law_whole hr (pa_cons (pv 0) pa_nil)) (pe_one (pe_cmpR (op_eqD hu) (pv 0) (pv 1) (nomark _)))))))), (so_seq (so_if (tto_b (eo_isi (by simp) eo_var)) (so_seq (so_if (tto_or (tto_not (tto_b (eo_isi (by simp) eo_var))) (tto_test (eo_op opp_ne (eo_cb cb_len (ao_cons eo_var ao_nil)) (eo_cb cb_len (ao_cons eo_var ao_nil))))) (so_ret eo_bl) so_next)
      (so_ret (eo_cb cb_all (ao_cons (eo_comp rfl rfl (io_zip (ao_cons eo_var (ao_cons eo_var ao_nil))) (go_tup (gs_cons go_name (gs_cons go_name gs_nil))) tto_true (eo_cal (ao_cons eo_var (ao_cons eo_var ao_nil)))) ao_nil)))) so_next)
      (so_seq (so_if (tto_b (eo_isi (by simp) eo_var)) (so_ret (eo_and (eo_isi (by simp) eo_var) (eo_op opp_eq eo_var eo_var))) so_next)
      (so_ret (eo_and (eo_cal (ao_cons eo_var ao_nil)) (eo_op opp_eq eo_var eo_var)))))⟩
theorem ok__law_like_3 (F : Fun K "_law_like" "_law_like" (top 41) f fd) (c__law_whole : CalP P w K mg base 1 "_law_whole" ["_law_thing"] 1 F__law_whole) (z_isinstance : mg "isinstance" = none) (z_tuple : mg "tuple" = none) (z_len : mg "len" = none) (z_all : mg "all" = none) (z_zip : mg "zip" = none) (z_str : mg "str" = none) (c__law_like : CalP P w K mg base 3 "_law_like" ["_law_found", "_law_due"] 2 F__law_like_2) : FnOk P w K mg base CX0 4 f fd ["_law_found", "_law_due"] (spP K 2 F__law_like_3) := by
  refine okF (k := 3) (n := 2) (m := 2) (g := g__law_like F__law_like_2) (FF := F__law_like_3) F sc__law_like rfl rfl rfl (fun cdv A outer s H E hr => ?_)
  have hu := hr.units
  have hv : (A.deeper (PyProof.Rows.envOfC "_law_like" (defScope (top 41)) s.heap.objs.size f cdv)).units + 65 < cLine := by have := hr.un; omega
  exact ⟨_, (pss_cons (ps_if (pt_val (pe_callB call_isiA rfl z_isinstance b_isinstance (pa_cons (pv 1) (pa_cons (pe_bltn (v := .ty "tuple") rfl z_tuple b_tuple rfl) pa_nil)))) (pss_cons (ps_if (PW.pt (pw_or (pt_not (pt_val (pe_callB call_isiA rfl z_isinstance b_isinstance (pa_cons (pv 0) (pa_cons (pe_bltn (v := .ty "tuple") rfl z_tuple b_tuple rfl) pa_nil))))) (pw_or1 (pt_cmpR (op_neD hu) (pe_callB call_len rfl z_len b_len (pa_cons (pv 0) pa_nil)) (pe_callB call_len rfl z_len b_len (pa_cons (pv 1) pa_nil)) (nomark _))))) (pss_one (ps_ret pe_bl)) pss_nil)
      (pss_one (ps_ret (pe_callB (call_all rfl) rfl z_all b_all (pa_cons (pe_comp ["_law_one", "_law_other"] [] rfl (pi_zip rfl z_zip (pa_cons (pv 0) (pa_cons (pv 1) pa_nil))) (fun _ _ _ _ => (pg_tup rfl (pgs_cons (pg_name (i := 0) (show List.Nodup (["_law_one", "_law_other"] : List Str) by decide +kernel) rfl (Or.inl rfl)) (pgs_cons (pg_name (i := 1) (show List.Nodup (["_law_one", "_law_other"] : List Str) by decide +kernel) rfl (Or.inl rfl)) pgs_nil)))) (fun _ _ _ _ => pifs_nil) (fun _ _ _ _ => (pe_cal c__law_like hr (pa_cons (pv 0) (pa_cons (pv 1) pa_nil)))) trivial rfl) pa_nil))))) pss_nil)
      (pss_cons (ps_if (pt_val (pe_callB call_isiA rfl z_isinstance b_isinstance (pa_cons (pv 1) (pa_cons (pe_bltn (v := .ty "str") rfl z_str b_str rfl) pa_nil)))) (pss_one (ps_ret (pe_and (pe_callB call_isiA rfl z_isinstance b_isinstance (pa_cons (pv 0) (pa_cons (pe_bltn (v := .ty "str") rfl z_str b_str rfl) pa_nil))) (pe_one (pe_cmpR (op_eqD hu) (pv 0) (pv 1) (nomark _)))))) pss_nil)
      (pss_one (ps_ret (pe_and (pe_cal c__law_whole hr (pa_cons (pv 0) pa_nil)) (pe_one (pe_cmpR (op_eqD hu) (pv 0) (pv 1) (nomark _)))))))), (so_seq (so_if (tto_b (eo_isi (by simp) eo_var)) (so_seq (so_if (tto_or (tto_not (tto_b (eo_isi (by simp) eo_var))) (tto_test (eo_op opp_ne (eo_cb cb_len (ao_cons eo_var ao_nil)) (eo_cb cb_len (ao_cons eo_var ao_nil))))) (so_ret eo_bl) so_next)
      (so_ret (eo_cb cb_all (ao_cons (eo_comp rfl rfl (io_zip (ao_cons eo_var (ao_cons eo_var ao_nil))) (go_tup (gs_cons go_name (gs_cons go_name gs_nil))) tto_true (eo_cal (ao_cons eo_var (ao_cons eo_var ao_nil)))) ao_nil)))) so_next)
      (so_seq (so_if (tto_b (eo_isi (by simp) eo_var)) (so_ret (eo_and (eo_isi (by simp) eo_var) (eo_op opp_eq eo_var eo_var))) so_next)
      (so_ret (eo_and (eo_cal (ao_cons eo_var ao_nil)) (eo_op opp_eq eo_var eo_var)))))⟩
theorem ok__law_like_4 (F : Fun K "_law_like" "_law_like" (top 41) f fd) (c__law_whole : CalP P w K mg base 1 "_law_whole" ["_law_thing"] 1 F__law_whole) (z_isinstance : mg "isinstance" = none) (z_tuple : mg "tuple" = none) (z_len : mg "len" = none) (z_all : mg "all" = none) (z_zip : mg "zip" = none) (z_str : mg "str" = none) (c__law_like : CalP P w K mg base 4 "_law_like" ["_law_found", "_law_due"] 2 F__law_like_3) : FnOk P w K mg base CX0 5 f fd ["_law_found", "_law_due"] (spP K 2 F__law_like_4) := by
  refine okF (k := 4) (n := 2) (m := 2) (g := g__law_like F__law_like_3) (FF := F__law_like_4) F sc__law_like rfl rfl rfl (fun cdv A outer s H E hr => ?_)
  have hu := hr.units
  have hv : (A.deeper (PyProof.Rows.envOfC "_law_like" (defScope (top 41)) s.heap.objs.size f cdv)).units + 65 < cLine := by have := hr.un; omega
  exact ⟨_, (pss_cons (ps_if (pt_val (pe_callB call_isiA rfl z_isinstance b_isinstance (pa_cons (pv 1) (pa_cons (pe_bltn (v := .ty "tuple") rfl z_tuple b_tuple rfl) pa_nil)))) (pss_cons (ps_if (PW.pt (pw_or (pt_not (pt_val (pe_callB call_isiA rfl z_isinstance b_isinstance (pa_cons (pv 0) (pa_cons (pe_bltn (v := .ty "tuple") rfl z_tuple b_tuple rfl) pa_nil))))) (pw_or1 (pt_cmpR (op_neD hu) (pe_callB call_len rfl z_len b_len (pa_cons (pv 0) pa_nil)) (pe_callB call_len rfl z_len b_len (pa_cons (pv 1) pa_nil)) (nomark _))))) (pss_one (ps_ret pe_bl)) pss_nil)
      (pss_one (ps_ret (pe_callB (call_all rfl) rfl z_all b_all (pa_cons (pe_comp ["_law_one", "_law_other"] [] rfl (pi_zip rfl z_zip (pa_cons (pv 0) (pa_cons (pv 1) pa_nil))) (fun _ _ _ _ => (pg_tup rfl (pgs_cons (pg_name (i := 0) (show List.Nodup (["_law_one", "_law_other"] : List Str) by decide +kernel) rfl (Or.inl rfl)) (pgs_cons (pg_name (i := 1) (show List.Nodup (["_law_one", "_law_other"] : List Str) by decide +kernel) rfl (Or.inl rfl)) pgs_nil)))) (fun _ _ _ _ => pifs_nil) (fun _ _ _ _ => (pe_cal c__law_like hr (pa_cons (pv 0) (pa_cons (pv 1) pa_nil)))) trivial rfl) pa_nil))))) pss_nil)
      (pss_cons (ps_if (pt_val (pe_callB call_isiA rfl z_isinstance b_isinstance (pa_cons (pv 1) (pa_cons (pe_bltn (v := .ty "str") rfl z_str b_str rfl) pa_nil)))) (pss_one (ps_ret (pe_and (pe_callB call_isiA rfl z_isinstance b_isinstance (pa_cons (pv 0) (pa_cons (pe_bltn (v := .ty "str") rfl z_str b_str rfl) pa_nil))) (pe_one (pe_cmpR (op_eqD hu) (pv 0) (pv 1) (nomark _)))))) pss_nil)
      (pss_one (ps_ret (pe_and (pe_cal c__law_whole hr (pa_cons (pv 0) pa_nil)) (pe_one (pe_cmpR (op_eqD hu) (pv 0) (pv 1) (nomark _)))))))), (so_seq (so_if (tto_b (eo_isi (by simp) eo_var)) (so_seq (so_if (tto_or (tto_not (tto_b (eo_isi (by simp) eo_var))) (tto_test (eo_op opp_ne (eo_cb cb_len (ao_cons eo_var ao_nil)) (eo_cb cb_len (ao_cons eo_var ao_nil))))) (so_ret eo_bl) so_next)
      (so_ret (eo_cb cb_all (ao_cons (eo_comp rfl rfl (io_zip (ao_cons eo_var (ao_cons eo_var ao_nil))) (go_tup (gs_cons go_name (gs_cons go_name gs_nil))) tto_true (eo_cal (ao_cons eo_var (ao_cons eo_var ao_nil)))) ao_nil)))) so_next)
      (so_seq (so_if (tto_b (eo_isi (by simp) eo_var)) (so_ret (eo_and (eo_isi (by simp) eo_var) (eo_op opp_eq eo_var eo_var))) so_next)
      (so_ret (eo_and (eo_cal (ao_cons eo_var ao_nil)) (eo_op opp_eq eo_var eo_var)))))⟩
theorem ok__law_like_5 (F : Fun K "_law_like" "_law_like" (top 41) f fd) (c__law_whole : CalP P w K mg base 1 "_law_whole" ["_law_thing"] 1 F__law_whole) (z_isinstance : mg "isinstance" = none) (z_tuple : mg "tuple" = none) (z_len : mg "len" = none) (z_all : mg "all" = none) (z_zip : mg "zip" = none) (z_str : mg "str" = none) (c__law_like : CalP P w K mg base 5 "_law_like" ["_law_found", "_law_due"] 2 F__law_like_4) : FnOk P w K mg base CX0 6 f fd ["_law_found", "_law_due"] (spP K 2 F__law_like_5) := by
  refine okF (k := 5) (n := 2) (m := 2) (g := g__law_like F__law_like_4) (FF := F__law_like_5) F sc__law_like rfl rfl rfl (fun cdv A outer s H E hr => ?_)
  have hu := hr.units
  have hv : (A.deeper (PyProof.Rows.envOfC "_law_like" (defScope (top 41)) s.heap.objs.size f cdv)).units + 65 < cLine := by have := hr.un; omega
  exact ⟨_, (pss_cons (ps_if (pt_val (pe_callB call_isiA rfl z_isinstance b_isinstance (pa_cons (pv 1) (pa_cons (pe_bltn (v := .ty "tuple") rfl z_tuple b_tuple rfl) pa_nil)))) (pss_cons (ps_if (PW.pt (pw_or (pt_not (pt_val (pe_callB call_isiA rfl z_isinstance b_isinstance (pa_cons (pv 0) (pa_cons (pe_bltn (v := .ty "tuple") rfl z_tuple b_tuple rfl) pa_nil))))) (pw_or1 (pt_cmpR (op_neD hu) (pe_callB call_len rfl z_len b_len (pa_cons (pv 0) pa_nil)) (pe_callB call_len rfl z_len b_len (pa_cons (pv 1) pa_nil)) (nomark _))))) (pss_one (ps_ret pe_bl)) pss_nil)
      (pss_one (ps_ret (pe_callB (call_all rfl) rfl z_all b_all (pa_cons (pe_comp ["_law_one", "_law_other"] [] rfl (pi_zip rfl z_zip (pa_cons (pv 0) (pa_cons (pv 1) pa_nil))) (fun _ _ _ _ => (pg_tup rfl (pgs_cons (pg_name (i := 0) (show List.Nodup (["_law_one", "_law_other"] : List Str) by decide +kernel) rfl (Or.inl rfl)) (pgs_cons (pg_name (i := 1) (show List.Nodup (["_law_one", "_law_other"] : List Str) by decide +kernel) rfl (Or.inl rfl)) pgs_nil)))) (fun _ _ _ _ => pifs_nil) (fun _ _ _ _ => (pe_cal c__law_like hr (pa_cons (pv 0) (pa_cons (pv 1) pa_nil)))) trivial rfl) pa_nil))))) pss_nil)
      (pss_cons (ps_if (pt_val (pe_callB call_isiA rfl z_isinstance b_isinstance (pa_cons (pv 1) (pa_cons (pe_bltn (v := .ty "str") rfl z_str b_str rfl) pa_nil)))) (pss_one (ps_ret (pe_and (pe_callB call_isiA rfl z_isinstance b_isinstance (pa_cons (pv 0) (pa_cons (pe_bltn (v := .ty "str") rfl z_str b_str rfl) pa_nil))) (pe_one (pe_cmpR (op_eqD hu) (pv 0) (pv 1) (nomark _)))))) pss_nil)
      (pss_one (ps_ret (pe_and (pe_cal c__law_whole hr (pa_cons (pv 0) pa_nil)) (pe_one (pe_cmpR (op_eqD hu) (pv 0) (pv 1) (nomark _)))))))), (so_seq (so_if (tto_b (eo_isi (by simp) eo_var)) (so_seq (so_if (tto_or (tto_not (tto_b (eo_isi (by simp) eo_var))) (tto_test (eo_op opp_ne (eo_cb cb_len (ao_cons eo_var ao_nil)) (eo_cb cb_len (ao_cons eo_var ao_nil))))) (so_ret eo_bl) so_next)
      (so_ret (eo_cb cb_all (ao_cons (eo_comp rfl rfl (io_zip (ao_cons eo_var (ao_cons eo_var ao_nil))) (go_tup (gs_cons go_name (gs_cons go_name gs_nil))) tto_true (eo_cal (ao_cons eo_var (ao_cons eo_var ao_nil)))) ao_nil)))) so_next)
      (so_seq (so_if (tto_b (eo_isi (by simp) eo_var)) (so_ret (eo_and (eo_isi (by simp) eo_var) (eo_op opp_eq eo_var eo_var))) so_next)
      (so_ret (eo_and (eo_cal (ao_cons eo_var ao_nil)) (eo_op opp_eq eo_var eo_var)))))⟩
theorem ok__law_like_6 (F : Fun K "_law_like" "_law_like" (top 41) f fd) (c__law_whole : CalP P w K mg base 1 "_law_whole" ["_law_thing"] 1 F__law_whole) (z_isinstance : mg "isinstance" = none) (z_tuple : mg "tuple" = none) (z_len : mg "len" = none) (z_all : mg "all" = none) (z_zip : mg "zip" = none) (z_str : mg "str" = none) (c__law_like : CalP P w K mg base 6 "_law_like" ["_law_found", "_law_due"] 2 F__law_like_5) : FnOk P w K mg base CX0 7 f fd ["_law_found", "_law_due"] (spP K 2 F__law_like_6) := by
  refine okF (k := 6) (n := 2) (m := 2) (g := g__law_like F__law_like_5) (FF := F__law_like_6) F sc__law_like rfl rfl rfl (fun cdv A outer s H E hr => ?_)
  have hu := hr.units
  have hv : (A.deeper (PyProof.Rows.envOfC "_law_like" (defScope (top 41)) s.heap.objs.size f cdv)).units + 65 < cLine := by have := hr.un; omega
  exact ⟨_, (pss_cons (ps_if (pt_val (pe_callB call_isiA rfl z_isinstance b_isinstance (pa_cons (pv 1) (pa_cons (pe_bltn (v := .ty "tuple") rfl z_tuple b_tuple rfl) pa_nil)))) (pss_cons (ps_if (PW.pt (pw_or (pt_not (pt_val (pe_callB call_isiA rfl z_isinstance b_isinstance (pa_cons (pv 0) (pa_cons (pe_bltn (v := .ty "tuple") rfl z_tuple b_tuple rfl) pa_nil))))) (pw_or1 (pt_cmpR (op_neD hu) (pe_callB call_len rfl z_len b_len (pa_cons (pv 0) pa_nil)) (pe_callB call_len rfl z_len b_len (pa_cons (pv 1) pa_nil)) (nomark _))))) (pss_one (ps_ret pe_bl)) pss_nil)
      (pss_one (ps_ret (pe_callB (call_all rfl) rfl z_all b_all (pa_cons (pe_comp ["_law_one", "_law_other"] [] rfl (pi_zip rfl z_zip (pa_cons (pv 0) (pa_cons (pv 1) pa_nil))) (fun _ _ _ _ => (pg_tup rfl (pgs_cons (pg_name (i := 0) (show List.Nodup (["_law_one", "_law_other"] : List Str) by decide +kernel) rfl (Or.inl rfl)) (pgs_cons (pg_name (i := 1) (show List.Nodup (["_law_one", "_law_other"] : List Str) by decide +kernel) rfl (Or.inl rfl)) pgs_nil)))) (fun _ _ _ _ => pifs_nil) (fun _ _ _ _ => (pe_cal c__law_like hr (pa_cons (pv 0) (pa_cons (pv 1) pa_nil)))) trivial rfl) pa_nil))))) pss_nil)
      (pss_cons (ps_if (pt_val (pe_callB call_isiA rfl z_isinstance b_isinstance (pa_cons (pv 1) (pa_cons (pe_bltn (v := .ty "str") rfl z_str b_str rfl) pa_nil)))) (pss_one (ps_ret (pe_and (pe_callB call_isiA rfl z_isinstance b_isinstance (pa_cons (pv 0) (pa_cons (pe_bltn (v := .ty "str") rfl z_str b_str rfl) pa_nil))) (pe_one (pe_cmpR (op_eqD hu) (pv 0) (pv 1) (nomark _)))))) pss_nil)
      (pss_one (ps_ret (pe_and (pe_cal c__law_whole hr (pa_cons (pv 0) pa_nil)) (pe_one (pe_cmpR (op_eqD hu) (pv 0) (pv 1) (nomark _)))))))), (so_seq (so_if (tto_b (eo_isi (by simp) eo_var)) (so_seq (so_if (tto_or (tto_not (tto_b (eo_isi (by simp) eo_var))) (tto_test (eo_op opp_ne (eo_cb cb_len (ao_cons eo_var ao_nil)) (eo_cb cb_len (ao_cons eo_var ao_nil))))) (so_ret eo_bl) so_next)
      (so_ret (eo_cb cb_all (ao_cons (eo_comp rfl rfl (io_zip (ao_cons eo_var (ao_cons eo_var ao_nil))) (go_tup (gs_cons go_name (gs_cons go_name gs_nil))) tto_true (eo_cal (ao_cons eo_var (ao_cons eo_var ao_nil)))) ao_nil)))) so_next)
      (so_seq (so_if (tto_b (eo_isi (by simp) eo_var)) (so_ret (eo_and (eo_isi (by simp) eo_var) (eo_op opp_eq eo_var eo_var))) so_next)
      (so_ret (eo_and (eo_cal (ao_cons eo_var ao_nil)) (eo_op opp_eq eo_var eo_var)))))⟩
theorem sc__law_there_and_back : FnScope ["_law_bed_here", "_law_text_here", "_law_found"] ["_law_bed_here"] (defScope (top 44)) := ⟨rfl, rfl, rfl, by decide +kernel, rfl, by decide +kernel, by decide +kernel⟩
theorem ok__law_there_and_back (F : Fun K "_law_there_and_back" "_law_there_and_back" (top 44) f fd) (c__law_text : CalP P w K mg base 2 "_law_text" ["_law_bed_here"] 1 F__law_text) (c_shown_bed : CalP P w K mg base 2 "shown_bed" ["bed"] 1 F_shown_bed) (c_read_bed : CalP P w K mg base 5 "read_bed" ["text"] 1 F_read_bed) (c__law_like : CalP P w K mg base 7 "_law_like" ["_law_found", "_law_due"] 2 F__law_like_6) (z_isinstance : mg "isinstance" = none) (z_str : mg "str" = none) : FnOk P w K mg base CX0 8 f fd ["_law_bed_here"] (spP K 1 F__law_there_and_back) := by
  refine okF (k := 7) (n := 1) (m := 3) (g := g__law_there_and_back) (FF := F__law_there_and_back) F sc__law_there_and_back rfl rfl rfl (fun cdv A outer s H E hr => ?_)
  have hu := hr.units
  have hv : (A.deeper (PyProof.Rows.envOfC "_law_there_and_back" (defScope (top 44)) s.heap.objs.size f cdv)).units + 65 < cLine := by have := hr.un; omega
  exact ⟨_, (pss_cons (ps_set (i := 1) sc__law_there_and_back.nd rfl (Or.inl rfl) (pe_cal c__law_text hr (pa_cons (pv 0) pa_nil)))
      (pss_cons (ps_set (i := 2) sc__law_there_and_back.nd rfl (Or.inl rfl) (pe_cal c_shown_bed hr (pa_cons (pv 0) pa_nil)))
      (pss_cons (ps_if (PW.pt (pw_or (pt_not (pt_val (pe_callB call_isiA rfl z_isinstance b_isinstance (pa_cons (pv 2) (pa_cons (pe_bltn (v := .ty "str") rfl z_str b_str rfl) pa_nil))))) (pw_or1 (pt_cmpR (op_neD hu) (pv 2) (pv 1) (nomark _))))) (pss_one (ps_ret pe_bl)) pss_nil)
      (pss_one (ps_ret (pe_cal c__law_like hr (pa_cons (pe_cal c_read_bed hr (pa_cons (pv 1) pa_nil)) (pa_cons (pv 0) pa_nil)))))))), (so_seq (so_asg (eo_cal (ao_cons eo_var ao_nil)) go_name)
      (so_seq (so_asg (eo_cal (ao_cons eo_var ao_nil)) go_name)
      (so_seq (so_if (tto_or (tto_not (tto_b (eo_isi (by simp) eo_var))) (tto_test (eo_op opp_ne eo_var eo_var))) (so_ret eo_bl) so_next)
      (so_ret (eo_cal (ao_cons (eo_cal (ao_cons eo_var ao_nil)) (ao_cons eo_var ao_nil)))))))⟩
theorem sc_law : FnScope ["_law_script", "_law_bed_here", "_law_other"] ["_law_script"] (defScope (top 45)) := ⟨rfl, rfl, rfl, by decide +kernel, rfl, by decide +kernel, by decide +kernel⟩
theorem ok_law (F : Fun K "law" "law" (top 45) f fd) (c__law_bed : CalP P w K mg base 4 "_law_bed" ["_law_script", "_law_at"] 2 F__law_bed) (c__law_there_and_back : CalP P w K mg base 8 "_law_there_and_back" ["_law_bed_here"] 1 F__law_there_and_back) : FnOk P w K mg base CX0 9 f fd ["_law_script"] (spP K 1 F_law) := by
  refine okF (k := 8) (n := 1) (m := 3) (g := g_law) (FF := F_law) F sc_law rfl rfl rfl (fun cdv A outer s H E hr => ?_)
  have hu := hr.units
  have hv : (A.deeper (PyProof.Rows.envOfC "law" (defScope (top 45)) s.heap.objs.size f cdv)).units + 65 < cLine := by have := hr.un; omega
  exact ⟨_, (pss_cons (ps_set (i := 1) sc_law.nd rfl (Or.inl rfl) (pe_cal c__law_bed hr (pa_cons (pv 0) (pa_cons pe_int pa_nil))))
      (pss_cons (ps_set (i := 2) sc_law.nd rfl (Or.inl rfl) (pe_cal c__law_bed hr (pa_cons (pv 0) (pa_cons pe_int pa_nil))))
      (pss_cons (ps_if (PW.pt (pw_or (pt_not (pt_val (pe_cal c__law_there_and_back hr (pa_cons (pv 1) pa_nil)))) (pw_or1 (pt_not (pt_val (pe_cal c__law_there_and_back hr (pa_cons (pv 2) pa_nil))))))) (pss_one (ps_ret pe_bl)) pss_nil)
      (pss_one (ps_ret (pe_cal c__law_there_and_back hr (pa_cons (pv 1) pa_nil))))))), (so_seq (so_asg (eo_cal (ao_cons eo_var (ao_cons eo_int ao_nil))) go_name)
      (so_seq (so_asg (eo_cal (ao_cons eo_var (ao_cons eo_int ao_nil))) go_name)
      (so_seq (so_if (tto_or (tto_not (tto_b (eo_cal (ao_cons eo_var ao_nil)))) (tto_not (tto_b (eo_cal (ao_cons eo_var ao_nil))))) (so_ret eo_bl) so_next)
      (so_ret (eo_cal (ao_cons eo_var ao_nil))))))⟩
end
theorem all_mk {l : PySem.W.OpenLaw} {w : World} {K : PySem.W.Frag} {h : Heap} {mg : Str → Option Value} {fa f0 f1 f2 f3 f4 f5 f6 f7 f8 f9 f10 f11 f12 f13 f14 f15 f16 f17 f18 f19 f20 f21 f22 f23 f24 f25 f26 f27 f28 f29 f30 f31 f32 : Addr}
    {t_FIGURES : Tok}
    {t_MOST_KEYS : Tok}
    {t_MOST_LAYERS : Tok}
    {t_MOST_CHORDS : Tok}
    {t_MOST_WAIT : Tok}
    {od0 an0 : Option Addr} {sl0 : Array (Option Value)} {oc0 kV0 dc0 pm0 cd0 ct0 : Value}
    {od1 an1 : Option Addr} {sl1 : Array (Option Value)} {oc1 kV1 dc1 pm1 cd1 ct1 : Value}
    {od2 an2 : Option Addr} {sl2 : Array (Option Value)} {oc2 kV2 dc2 pm2 cd2 ct2 : Value}
    {od3 an3 : Option Addr} {sl3 : Array (Option Value)} {oc3 kV3 dc3 pm3 cd3 ct3 : Value}
    {od4 an4 : Option Addr} {sl4 : Array (Option Value)} {oc4 kV4 dc4 pm4 cd4 ct4 : Value}
    {od5 an5 : Option Addr} {sl5 : Array (Option Value)} {oc5 kV5 dc5 pm5 cd5 ct5 : Value}
    {od6 an6 : Option Addr} {sl6 : Array (Option Value)} {oc6 kV6 dc6 pm6 cd6 ct6 : Value}
    {od7 an7 : Option Addr} {sl7 : Array (Option Value)} {oc7 kV7 dc7 pm7 cd7 ct7 : Value}
    {od8 an8 : Option Addr} {sl8 : Array (Option Value)} {oc8 kV8 dc8 pm8 cd8 ct8 : Value}
    {od9 an9 : Option Addr} {sl9 : Array (Option Value)} {oc9 kV9 dc9 pm9 cd9 ct9 : Value}
    {od10 an10 : Option Addr} {sl10 : Array (Option Value)} {oc10 kV10 dc10 pm10 cd10 ct10 : Value}
    {od11 an11 : Option Addr} {sl11 : Array (Option Value)} {oc11 kV11 dc11 pm11 cd11 ct11 : Value}
    {od12 an12 : Option Addr} {sl12 : Array (Option Value)} {oc12 kV12 dc12 pm12 cd12 ct12 : Value}
    {od13 an13 : Option Addr} {sl13 : Array (Option Value)} {oc13 kV13 dc13 pm13 cd13 ct13 : Value}
    {od14 an14 : Option Addr} {sl14 : Array (Option Value)} {oc14 kV14 dc14 pm14 cd14 ct14 : Value}
    {od15 an15 : Option Addr} {sl15 : Array (Option Value)} {oc15 kV15 dc15 pm15 cd15 ct15 : Value}
    {od16 an16 : Option Addr} {sl16 : Array (Option Value)} {oc16 kV16 dc16 pm16 cd16 ct16 : Value}
    {od17 an17 : Option Addr} {sl17 : Array (Option Value)} {oc17 kV17 dc17 pm17 cd17 ct17 : Value}
    {od18 an18 : Option Addr} {sl18 : Array (Option Value)} {oc18 kV18 dc18 pm18 cd18 ct18 : Value}
    {od19 an19 : Option Addr} {sl19 : Array (Option Value)} {oc19 kV19 dc19 pm19 cd19 ct19 : Value}
    {od20 an20 : Option Addr} {sl20 : Array (Option Value)} {oc20 kV20 dc20 pm20 cd20 ct20 : Value}
    {od21 an21 : Option Addr} {sl21 : Array (Option Value)} {oc21 kV21 dc21 pm21 cd21 ct21 : Value}
    {od22 an22 : Option Addr} {sl22 : Array (Option Value)} {oc22 kV22 dc22 pm22 cd22 ct22 : Value}
    {od23 an23 : Option Addr} {sl23 : Array (Option Value)} {oc23 kV23 dc23 pm23 cd23 ct23 : Value}
    {od24 an24 : Option Addr} {sl24 : Array (Option Value)} {oc24 kV24 dc24 pm24 cd24 ct24 : Value}
    {od25 an25 : Option Addr} {sl25 : Array (Option Value)} {oc25 kV25 dc25 pm25 cd25 ct25 : Value}
    {od26 an26 : Option Addr} {sl26 : Array (Option Value)} {oc26 kV26 dc26 pm26 cd26 ct26 : Value}
    {od27 an27 : Option Addr} {sl27 : Array (Option Value)} {oc27 kV27 dc27 pm27 cd27 ct27 : Value}
    {od28 an28 : Option Addr} {sl28 : Array (Option Value)} {oc28 kV28 dc28 pm28 cd28 ct28 : Value}
    {od29 an29 : Option Addr} {sl29 : Array (Option Value)} {oc29 kV29 dc29 pm29 cd29 ct29 : Value}
    {od30 an30 : Option Addr} {sl30 : Array (Option Value)} {oc30 kV30 dc30 pm30 cd30 ct30 : Value}
    {od31 an31 : Option Addr} {sl31 : Array (Option Value)} {oc31 kV31 dc31 pm31 cd31 ct31 : Value}
    {od32 an32 : Option Addr} {sl32 : Array (Option Value)} {oc32 kV32 dc32 pm32 cd32 ct32 : Value} (X : K.In h) (G : h.Ns mainGlobals mg) (hfa : mg "law" = some (.ref fa))
    (a0 : PySem.W.nsIn K mainGlobals "_law_cell" = some (some (.ref f0)))
    (l0 : K.lookup f0 = some ⟨oc0, od0, .func (PySem.W.fnOf "_law_cell" "_law_cell" (defArgs (top 31)) (defBody (top 31)) (defScope (top 31)) .none kV0 dc0 pm0 an0 cd0 ct0), sl0⟩)
    (c0 : PySem.W.codeIn K cd0 "_law_cell" = true)
    (k0 : PySem.W.keepIn K (.ref f0) = true)
    (a1 : PySem.W.nsIn K mainGlobals "_law_stirred" = some (some (.ref f1)))
    (l1 : K.lookup f1 = some ⟨oc1, od1, .func (PySem.W.fnOf "_law_stirred" "_law_stirred" (defArgs (top 32)) (defBody (top 32)) (defScope (top 32)) .none kV1 dc1 pm1 an1 cd1 ct1), sl1⟩)
    (c1 : PySem.W.codeIn K cd1 "_law_stirred" = true)
    (k1 : PySem.W.keepIn K (.ref f1) = true)
    (a2 : PySem.W.nsIn K mainGlobals "_law_stream" = some (some (.ref f2)))
    (l2 : K.lookup f2 = some ⟨oc2, od2, .func (PySem.W.fnOf "_law_stream" "_law_stream" (defArgs (top 34)) (defBody (top 34)) (defScope (top 34)) .none kV2 dc2 pm2 an2 cd2 ct2), sl2⟩)
    (c2 : PySem.W.codeIn K cd2 "_law_stream" = true)
    (k2 : PySem.W.keepIn K (.ref f2) = true)
    (a3 : PySem.W.nsIn K mainGlobals "_law_letter" = some (some (.ref f3)))
    (l3 : K.lookup f3 = some ⟨oc3, od3, .func (PySem.W.fnOf "_law_letter" "_law_letter" (defArgs (top 36)) (defBody (top 36)) (defScope (top 36)) .none kV3 dc3 pm3 an3 cd3 ct3), sl3⟩)
    (c3 : PySem.W.codeIn K cd3 "_law_letter" = true)
    (k3 : PySem.W.keepIn K (.ref f3) = true)
    (a4 : PySem.W.nsIn K mainGlobals "_law_meaning_of" = some (some (.ref f4)))
    (l4 : K.lookup f4 = some ⟨oc4, od4, .func (PySem.W.fnOf "_law_meaning_of" "_law_meaning_of" (defArgs (top 38)) (defBody (top 38)) (defScope (top 38)) .none kV4 dc4 pm4 an4 cd4 ct4), sl4⟩)
    (c4 : PySem.W.codeIn K cd4 "_law_meaning_of" = true)
    (k4 : PySem.W.keepIn K (.ref f4) = true)
    (a5 : PySem.W.nsIn K mainGlobals "_law_read_bed" = some (some (.ref f5)))
    (l5 : K.lookup f5 = some ⟨oc5, od5, .func (PySem.W.fnOf "_law_read_bed" "_law_read_bed" (defArgs (top 39)) (defBody (top 39)) (defScope (top 39)) .none kV5 dc5 pm5 an5 cd5 ct5), sl5⟩)
    (c5 : PySem.W.codeIn K cd5 "_law_read_bed" = true)
    (k5 : PySem.W.keepIn K (.ref f5) = true)
    (a6 : PySem.W.nsIn K mainGlobals "_law_wide" = some (some (.ref f6)))
    (l6 : K.lookup f6 = some ⟨oc6, od6, .func (PySem.W.fnOf "_law_wide" "_law_wide" (defArgs (top 33)) (defBody (top 33)) (defScope (top 33)) .none kV6 dc6 pm6 an6 cd6 ct6), sl6⟩)
    (c6 : PySem.W.codeIn K cd6 "_law_wide" = true)
    (k6 : PySem.W.keepIn K (.ref f6) = true)
    (a7 : PySem.W.nsIn K mainGlobals "_law_meaning" = some (some (.ref f7)))
    (l7 : K.lookup f7 = some ⟨oc7, od7, .func (PySem.W.fnOf "_law_meaning" "_law_meaning" (defArgs (top 37)) (defBody (top 37)) (defScope (top 37)) .none kV7 dc7 pm7 an7 cd7 ct7), sl7⟩)
    (c7 : PySem.W.codeIn K cd7 "_law_meaning" = true)
    (k7 : PySem.W.keepIn K (.ref f7) = true)
    (a8 : PySem.W.nsIn K mainGlobals "_law_bed" = some (some (.ref f8)))
    (l8 : K.lookup f8 = some ⟨oc8, od8, .func (PySem.W.fnOf "_law_bed" "_law_bed" (defArgs (top 40)) (defBody (top 40)) (defScope (top 40)) .none kV8 dc8 pm8 an8 cd8 ct8), sl8⟩)
    (c8 : PySem.W.codeIn K cd8 "_law_bed" = true)
    (k8 : PySem.W.keepIn K (.ref f8) = true)
    (a9 : PySem.W.nsIn K mainGlobals "_law_word" = some (some (.ref f9)))
    (l9 : K.lookup f9 = some ⟨oc9, od9, .func (PySem.W.fnOf "_law_word" "_law_word" (defArgs (top 42)) (defBody (top 42)) (defScope (top 42)) .none kV9 dc9 pm9 an9 cd9 ct9), sl9⟩)
    (c9 : PySem.W.codeIn K cd9 "_law_word" = true)
    (k9 : PySem.W.keepIn K (.ref f9) = true)
    (a10 : PySem.W.nsIn K mainGlobals "_law_text" = some (some (.ref f10)))
    (l10 : K.lookup f10 = some ⟨oc10, od10, .func (PySem.W.fnOf "_law_text" "_law_text" (defArgs (top 43)) (defBody (top 43)) (defScope (top 43)) .none kV10 dc10 pm10 an10 cd10 ct10), sl10⟩)
    (c10 : PySem.W.codeIn K cd10 "_law_text" = true)
    (k10 : PySem.W.keepIn K (.ref f10) = true)
    (a11 : PySem.W.nsIn K mainGlobals "shown_meaning" = some (some (.ref f11)))
    (l11 : K.lookup f11 = some ⟨oc11, od11, .func (PySem.W.fnOf "shown_meaning" "shown_meaning" (defArgs (top 29)) (defBody (top 29)) (defScope (top 29)) .none kV11 dc11 pm11 an11 cd11 ct11), sl11⟩)
    (c11 : PySem.W.codeIn K cd11 "shown_meaning" = true)
    (k11 : PySem.W.keepIn K (.ref f11) = true)
    (a12 : PySem.W.nsIn K mainGlobals "shown_bed" = some (some (.ref f12)))
    (l12 : K.lookup f12 = some ⟨oc12, od12, .func (PySem.W.fnOf "shown_bed" "shown_bed" (defArgs (top 28)) (defBody (top 28)) (defScope (top 28)) .none kV12 dc12 pm12 an12 cd12 ct12), sl12⟩)
    (c12 : PySem.W.codeIn K cd12 "shown_bed" = true)
    (k12 : PySem.W.keepIn K (.ref f12) = true)
    (a13 : PySem.W.nsIn K mainGlobals "read_number" = some (some (.ref f13)))
    (l13 : K.lookup f13 = some ⟨oc13, od13, .func (PySem.W.fnOf "read_number" "read_number" (defArgs (top 27)) (defBody (top 27)) (defScope (top 27)) .none kV13 dc13 pm13 an13 cd13 ct13), sl13⟩)
    (c13 : PySem.W.codeIn K cd13 "read_number" = true)
    (k13 : PySem.W.keepIn K (.ref f13) = true)
    (a14 : PySem.W.nsIn K mainGlobals "all_read" = some (some (.ref f14)))
    (l14 : K.lookup f14 = some ⟨oc14, od14, .func (PySem.W.fnOf "all_read" "all_read" (defArgs (top 24)) (defBody (top 24)) (defScope (top 24)) .none kV14 dc14 pm14 an14 cd14 ct14), sl14⟩)
    (c14 : PySem.W.codeIn K cd14 "all_read" = true)
    (k14 : PySem.W.keepIn K (.ref f14) = true)
    (a15 : PySem.W.nsIn K mainGlobals "read_numbers" = some (some (.ref f15)))
    (l15 : K.lookup f15 = some ⟨oc15, od15, .func (PySem.W.fnOf "read_numbers" "read_numbers" (defArgs (top 21)) (defBody (top 21)) (defScope (top 21)) .none kV15 dc15 pm15 an15 cd15 ct15), sl15⟩)
    (c15 : PySem.W.codeIn K cd15 "read_numbers" = true)
    (k15 : PySem.W.keepIn K (.ref f15) = true)
    (a16 : PySem.W.nsIn K mainGlobals "is_letter" = some (some (.ref f16)))
    (l16 : K.lookup f16 = some ⟨oc16, od16, .func (PySem.W.fnOf "is_letter" "is_letter" (defArgs (top 17)) (defBody (top 17)) (defScope (top 17)) .none kV16 dc16 pm16 an16 cd16 ct16), sl16⟩)
    (c16 : PySem.W.codeIn K cd16 "is_letter" = true)
    (k16 : PySem.W.keepIn K (.ref f16) = true)
    (a17 : PySem.W.nsIn K mainGlobals "read_meaning" = some (some (.ref f17)))
    (l17 : K.lookup f17 = some ⟨oc17, od17, .func (PySem.W.fnOf "read_meaning" "read_meaning" (defArgs (top 25)) (defBody (top 25)) (defScope (top 25)) .none kV17 dc17 pm17 an17 cd17 ct17), sl17⟩)
    (c17 : PySem.W.codeIn K cd17 "read_meaning" = true)
    (k17 : PySem.W.keepIn K (.ref f17) = true)
    (a18 : PySem.W.nsIn K mainGlobals "read_layer" = some (some (.ref f18)))
    (l18 : K.lookup f18 = some ⟨oc18, od18, .func (PySem.W.fnOf "read_layer" "read_layer" (defArgs (top 22)) (defBody (top 22)) (defScope (top 22)) .none kV18 dc18 pm18 an18 cd18 ct18), sl18⟩)
    (c18 : PySem.W.codeIn K cd18 "read_layer" = true)
    (k18 : PySem.W.keepIn K (.ref f18) = true)
    (a19 : PySem.W.nsIn K mainGlobals "read_parted" = some (some (.ref f19)))
    (l19 : K.lookup f19 = some ⟨oc19, od19, .func (PySem.W.fnOf "read_parted" "read_parted" (defArgs (top 26)) (defBody (top 26)) (defScope (top 26)) .none kV19 dc19 pm19 an19 cd19 ct19), sl19⟩)
    (c19 : PySem.W.codeIn K cd19 "read_parted" = true)
    (k19 : PySem.W.keepIn K (.ref f19) = true)
    (a20 : PySem.W.nsIn K mainGlobals "read_chord" = some (some (.ref f20)))
    (l20 : K.lookup f20 = some ⟨oc20, od20, .func (PySem.W.fnOf "read_chord" "read_chord" (defArgs (top 23)) (defBody (top 23)) (defScope (top 23)) .none kV20 dc20 pm20 an20 cd20 ct20), sl20⟩)
    (c20 : PySem.W.codeIn K cd20 "read_chord" = true)
    (k20 : PySem.W.keepIn K (.ref f20) = true)
    (a21 : PySem.W.nsIn K mainGlobals "check_numbers" = some (some (.ref f21)))
    (l21 : K.lookup f21 = some ⟨oc21, od21, .func (PySem.W.fnOf "check_numbers" "check_numbers" (defArgs (top 11)) (defBody (top 11)) (defScope (top 11)) .none kV21 dc21 pm21 an21 cd21 ct21), sl21⟩)
    (c21 : PySem.W.codeIn K cd21 "check_numbers" = true)
    (k21 : PySem.W.keepIn K (.ref f21) = true)
    (a22 : PySem.W.nsIn K mainGlobals "may_mean" = some (some (.ref f22)))
    (l22 : K.lookup f22 = some ⟨oc22, od22, .func (PySem.W.fnOf "may_mean" "may_mean" (defArgs (top 13)) (defBody (top 13)) (defScope (top 13)) .none kV22 dc22 pm22 an22 cd22 ct22), sl22⟩)
    (c22 : PySem.W.codeIn K cd22 "may_mean" = true)
    (k22 : PySem.W.keepIn K (.ref f22) = true)
    (a23 : PySem.W.nsIn K mainGlobals "check_layer" = some (some (.ref f23)))
    (l23 : K.lookup f23 = some ⟨oc23, od23, .func (PySem.W.fnOf "check_layer" "check_layer" (defArgs (top 12)) (defBody (top 12)) (defScope (top 12)) .none kV23 dc23 pm23 an23 cd23 ct23), sl23⟩)
    (c23 : PySem.W.codeIn K cd23 "check_layer" = true)
    (k23 : PySem.W.keepIn K (.ref f23) = true)
    (a24 : PySem.W.nsIn K mainGlobals "rises" = some (some (.ref f24)))
    (l24 : K.lookup f24 = some ⟨oc24, od24, .func (PySem.W.fnOf "rises" "rises" (defArgs (top 16)) (defBody (top 16)) (defScope (top 16)) .none kV24 dc24 pm24 an24 cd24 ct24), sl24⟩)
    (c24 : PySem.W.codeIn K cd24 "rises" = true)
    (k24 : PySem.W.keepIn K (.ref f24) = true)
    (a25 : PySem.W.nsIn K mainGlobals "is_chord_set" = some (some (.ref f25)))
    (l25 : K.lookup f25 = some ⟨oc25, od25, .func (PySem.W.fnOf "is_chord_set" "is_chord_set" (defArgs (top 15)) (defBody (top 15)) (defScope (top 15)) .none kV25 dc25 pm25 an25 cd25 ct25), sl25⟩)
    (c25 : PySem.W.codeIn K cd25 "is_chord_set" = true)
    (k25 : PySem.W.keepIn K (.ref f25) = true)
    (a26 : PySem.W.nsIn K mainGlobals "check_chord" = some (some (.ref f26)))
    (l26 : K.lookup f26 = some ⟨oc26, od26, .func (PySem.W.fnOf "check_chord" "check_chord" (defArgs (top 14)) (defBody (top 14)) (defScope (top 14)) .none kV26 dc26 pm26 an26 cd26 ct26), sl26⟩)
    (c26 : PySem.W.codeIn K cd26 "check_chord" = true)
    (k26 : PySem.W.keepIn K (.ref f26) = true)
    (a27 : PySem.W.nsIn K mainGlobals "checked" = some (some (.ref f27)))
    (l27 : K.lookup f27 = some ⟨oc27, od27, .func (PySem.W.fnOf "checked" "checked" (defArgs (top 10)) (defBody (top 10)) (defScope (top 10)) .none kV27 dc27 pm27 an27 cd27 ct27), sl27⟩)
    (c27 : PySem.W.codeIn K cd27 "checked" = true)
    (k27 : PySem.W.keepIn K (.ref f27) = true)
    (a28 : PySem.W.nsIn K mainGlobals "read_bed" = some (some (.ref f28)))
    (l28 : K.lookup f28 = some ⟨oc28, od28, .func (PySem.W.fnOf "read_bed" "read_bed" (defArgs (top 20)) (defBody (top 20)) (defScope (top 20)) .none kV28 dc28 pm28 an28 cd28 ct28), sl28⟩)
    (c28 : PySem.W.codeIn K cd28 "read_bed" = true)
    (k28 : PySem.W.keepIn K (.ref f28) = true)
    (a29 : PySem.W.nsIn K mainGlobals "_law_whole" = some (some (.ref f29)))
    (l29 : K.lookup f29 = some ⟨oc29, od29, .func (PySem.W.fnOf "_law_whole" "_law_whole" (defArgs (top 35)) (defBody (top 35)) (defScope (top 35)) .none kV29 dc29 pm29 an29 cd29 ct29), sl29⟩)
    (c29 : PySem.W.codeIn K cd29 "_law_whole" = true)
    (k29 : PySem.W.keepIn K (.ref f29) = true)
    (a30 : PySem.W.nsIn K mainGlobals "_law_like" = some (some (.ref f30)))
    (l30 : K.lookup f30 = some ⟨oc30, od30, .func (PySem.W.fnOf "_law_like" "_law_like" (defArgs (top 41)) (defBody (top 41)) (defScope (top 41)) .none kV30 dc30 pm30 an30 cd30 ct30), sl30⟩)
    (c30 : PySem.W.codeIn K cd30 "_law_like" = true)
    (k30 : PySem.W.keepIn K (.ref f30) = true)
    (a31 : PySem.W.nsIn K mainGlobals "_law_there_and_back" = some (some (.ref f31)))
    (l31 : K.lookup f31 = some ⟨oc31, od31, .func (PySem.W.fnOf "_law_there_and_back" "_law_there_and_back" (defArgs (top 44)) (defBody (top 44)) (defScope (top 44)) .none kV31 dc31 pm31 an31 cd31 ct31), sl31⟩)
    (c31 : PySem.W.codeIn K cd31 "_law_there_and_back" = true)
    (k31 : PySem.W.keepIn K (.ref f31) = true)
    (a32 : PySem.W.nsIn K mainGlobals "law" = some (some (.ref f32)))
    (l32 : K.lookup f32 = some ⟨oc32, od32, .func (PySem.W.fnOf "law" "law" (defArgs (top 45)) (defBody (top 45)) (defScope (top 45)) .none kV32 dc32 pm32 an32 cd32 ct32), sl32⟩)
    (c32 : PySem.W.codeIn K cd32 "law" = true)
    (k32 : PySem.W.keepIn K (.ref f32) = true)
    (aW_FIGURES : PySem.W.nsIn K mainGlobals "FIGURES" = some (some (.str "0123456789" t_FIGURES)))
    (aW_MOST_KEYS : PySem.W.nsIn K mainGlobals "MOST_KEYS" = some (some (.int 5 t_MOST_KEYS)))
    (aW_MOST_LAYERS : PySem.W.nsIn K mainGlobals "MOST_LAYERS" = some (some (.int 3 t_MOST_LAYERS)))
    (aW_MOST_CHORDS : PySem.W.nsIn K mainGlobals "MOST_CHORDS" = some (some (.int 4 t_MOST_CHORDS)))
    (aW_MOST_WAIT : PySem.W.nsIn K mainGlobals "MOST_WAIT" = some (some (.int 4 t_MOST_WAIT)))
    (y_max : PySem.W.nsIn K mainGlobals "max" = some none)
    (y_range : PySem.W.nsIn K mainGlobals "range" = some none)
    (y_tuple : PySem.W.nsIn K mainGlobals "tuple" = some none)
    (y_len : PySem.W.nsIn K mainGlobals "len" = some none)
    (y_int : PySem.W.nsIn K mainGlobals "int" = some none)
    (y_str : PySem.W.nsIn K mainGlobals "str" = some none)
    (y_all : PySem.W.nsIn K mainGlobals "all" = some none)
    (y_enumerate : PySem.W.nsIn K mainGlobals "enumerate" = some none)
    (y_zip : PySem.W.nsIn K mainGlobals "zip" = some none)
    (y_isinstance : PySem.W.nsIn K mainGlobals "isinstance" = some none)
    (y_bool : PySem.W.nsIn K mainGlobals "bool" = some none) :
    ∃ fd : FuncData, (∀ (s : Shared) (v : Value), BindsTo s fd ⟨[v], []⟩ [("_law_script", v)]) ∧ ∀ base : Heap, K.In base → base.Ns mainGlobals mg → FnOk l.prog w K mg base CX0 9 fa fd ["_law_script"] (spP K 1 F_law) := by
  have e := hfa.symm.trans (PySem.W.mg_of X G a32)
  cases e
  have z_max := PySem.W.mg_none_of X G y_max
  have z_range := PySem.W.mg_none_of X G y_range
  have z_tuple := PySem.W.mg_none_of X G y_tuple
  have z_len := PySem.W.mg_none_of X G y_len
  have z_int := PySem.W.mg_none_of X G y_int
  have z_str := PySem.W.mg_none_of X G y_str
  have z_all := PySem.W.mg_none_of X G y_all
  have z_enumerate := PySem.W.mg_none_of X G y_enumerate
  have z_zip := PySem.W.mg_none_of X G y_zip
  have z_isinstance := PySem.W.mg_none_of X G y_isinstance
  have z_bool := PySem.W.mg_none_of X G y_bool
  have m_FIGURES := PySem.W.mg_of X G aW_FIGURES
  have m_MOST_KEYS := PySem.W.mg_of X G aW_MOST_KEYS
  have m_MOST_LAYERS := PySem.W.mg_of X G aW_MOST_LAYERS
  have m_MOST_CHORDS := PySem.W.mg_of X G aW_MOST_CHORDS
  have m_MOST_WAIT := PySem.W.mg_of X G aW_MOST_WAIT
  have F0 := fun_mk (st := top 31) l0 c0 k0
  have b0 := F0.binds (ps := ["_law_script", "_law_k"]) fun _ _ _ _ _ _ us hl => match us, hl with | [_, _], _ => rfl
  have F1 := fun_mk (st := top 32) l1 c1 k1
  have b1 := F1.binds (ps := ["_law_cell_here", "_law_salt"]) fun _ _ _ _ _ _ us hl => match us, hl with | [_, _], _ => rfl
  have F2 := fun_mk (st := top 34) l2 c2 k2
  have b2 := F2.binds (ps := ["_law_cell_here", "_law_many"]) fun _ _ _ _ _ _ us hl => match us, hl with | [_, _], _ => rfl
  have F3 := fun_mk (st := top 36) l3 c3 k3
  have b3 := F3.binds (ps := ["_law_cell_here"]) fun _ _ _ _ _ _ us hl => match us, hl with | [_], _ => rfl
  have F4 := fun_mk (st := top 38) l4 c4 k4
  have b4 := F4.binds (ps := ["_law_rest", "_law_layer", "_law_layers"]) fun _ _ _ _ _ _ us hl => match us, hl with | [_, _, _], _ => rfl
  have F5 := fun_mk (st := top 39) l5 c5 k5
  have b5 := F5.binds (ps := ["_law_xs"]) fun _ _ _ _ _ _ us hl => match us, hl with | [_], _ => rfl
  have F6 := fun_mk (st := top 33) l6 c6 k6
  have b6 := F6.binds (ps := ["_law_cell_here", "_law_salt"]) fun _ _ _ _ _ _ us hl => match us, hl with | [_, _], _ => rfl
  have F7 := fun_mk (st := top 37) l7 c7 k7
  have b7 := F7.binds (ps := ["_law_cell_here", "_law_layer", "_law_layers"]) fun _ _ _ _ _ _ us hl => match us, hl with | [_, _, _], _ => rfl
  have F8 := fun_mk (st := top 40) l8 c8 k8
  have b8 := F8.binds (ps := ["_law_script", "_law_at"]) fun _ _ _ _ _ _ us hl => match us, hl with | [_, _], _ => rfl
  have F9 := fun_mk (st := top 42) l9 c9 k9
  have b9 := F9.binds (ps := ["_law_meaning_here"]) fun _ _ _ _ _ _ us hl => match us, hl with | [_], _ => rfl
  have F10 := fun_mk (st := top 43) l10 c10 k10
  have b10 := F10.binds (ps := ["_law_bed_here"]) fun _ _ _ _ _ _ us hl => match us, hl with | [_], _ => rfl
  have F11 := fun_mk (st := top 29) l11 c11 k11
  have b11 := F11.binds (ps := ["meaning"]) fun _ _ _ _ _ _ us hl => match us, hl with | [_], _ => rfl
  have F12 := fun_mk (st := top 28) l12 c12 k12
  have b12 := F12.binds (ps := ["bed"]) fun _ _ _ _ _ _ us hl => match us, hl with | [_], _ => rfl
  have F13 := fun_mk (st := top 27) l13 c13 k13
  have b13 := F13.binds (ps := ["word"]) fun _ _ _ _ _ _ us hl => match us, hl with | [_], _ => rfl
  have F14 := fun_mk (st := top 24) l14 c14 k14
  have b14 := F14.binds (ps := ["values"]) fun _ _ _ _ _ _ us hl => match us, hl with | [_], _ => rfl
  have F15 := fun_mk (st := top 21) l15 c15 k15
  have b15 := F15.binds (ps := ["words"]) fun _ _ _ _ _ _ us hl => match us, hl with | [_], _ => rfl
  have F16 := fun_mk (st := top 17) l16 c16 k16
  have b16 := F16.binds (ps := ["text"]) fun _ _ _ _ _ _ us hl => match us, hl with | [_], _ => rfl
  have F17 := fun_mk (st := top 25) l17 c17 k17
  have b17 := F17.binds (ps := ["word"]) fun _ _ _ _ _ _ us hl => match us, hl with | [_], _ => rfl
  have F18 := fun_mk (st := top 22) l18 c18 k18
  have b18 := F18.binds (ps := ["words"]) fun _ _ _ _ _ _ us hl => match us, hl with | [_], _ => rfl
  have F19 := fun_mk (st := top 26) l19 c19 k19
  have b19 := F19.binds (ps := ["text", "sign"]) fun _ _ _ _ _ _ us hl => match us, hl with | [_, _], _ => rfl
  have F20 := fun_mk (st := top 23) l20 c20 k20
  have b20 := F20.binds (ps := ["words"]) fun _ _ _ _ _ _ us hl => match us, hl with | [_], _ => rfl
  have F21 := fun_mk (st := top 11) l21 c21 k21
  have b21 := F21.binds (ps := ["bed"]) fun _ _ _ _ _ _ us hl => match us, hl with | [_], _ => rfl
  have F22 := fun_mk (st := top 13) l22 c22 k22
  have b22 := F22.binds (ps := ["meaning", "layer", "layers"]) fun _ _ _ _ _ _ us hl => match us, hl with | [_, _, _], _ => rfl
  have F23 := fun_mk (st := top 12) l23 c23 k23
  have b23 := F23.binds (ps := ["bed", "layer"]) fun _ _ _ _ _ _ us hl => match us, hl with | [_, _], _ => rfl
  have F24 := fun_mk (st := top 16) l24 c24 k24
  have b24 := F24.binds (ps := ["keys"]) fun _ _ _ _ _ _ us hl => match us, hl with | [_], _ => rfl
  have F25 := fun_mk (st := top 15) l25 c25 k25
  have b25 := F25.binds (ps := ["bed", "keys"]) fun _ _ _ _ _ _ us hl => match us, hl with | [_, _], _ => rfl
  have F26 := fun_mk (st := top 14) l26 c26 k26
  have b26 := F26.binds (ps := ["bed", "place"]) fun _ _ _ _ _ _ us hl => match us, hl with | [_, _], _ => rfl
  have F27 := fun_mk (st := top 10) l27 c27 k27
  have b27 := F27.binds (ps := ["bed"]) fun _ _ _ _ _ _ us hl => match us, hl with | [_], _ => rfl
  have F28 := fun_mk (st := top 20) l28 c28 k28
  have b28 := F28.binds (ps := ["text"]) fun _ _ _ _ _ _ us hl => match us, hl with | [_], _ => rfl
  have F29 := fun_mk (st := top 35) l29 c29 k29
  have b29 := F29.binds (ps := ["_law_thing"]) fun _ _ _ _ _ _ us hl => match us, hl with | [_], _ => rfl
  have F30 := fun_mk (st := top 41) l30 c30 k30
  have b30 := F30.binds (ps := ["_law_found", "_law_due"]) fun _ _ _ _ _ _ us hl => match us, hl with | [_, _], _ => rfl
  have F31 := fun_mk (st := top 44) l31 c31 k31
  have b31 := F31.binds (ps := ["_law_bed_here"]) fun _ _ _ _ _ _ us hl => match us, hl with | [_], _ => rfl
  have F32 := fun_mk (st := top 45) l32 c32 k32
  have b32 := F32.binds (ps := ["_law_script"]) fun _ _ _ _ _ _ us hl => match us, hl with | [_], _ => rfl
  refine ⟨PySem.W.fnOf "law" "law" (defArgs (top 45)) (defBody (top 45)) (defScope (top 45)) .none kV32 dc32 pm32 an32 cd32 ct32, fun s v => .of_eq rfl, fun base _ _ => ?_⟩
  have c__law_cell : CalP l.prog w K mg base 1 "_law_cell" ["_law_script", "_law_k"] 2 F__law_cell := ⟨f0, _, ok__law_cell F0, b0, k0, PySem.W.mg_of X G a0⟩
  have c__law_stirred : CalP l.prog w K mg base 1 "_law_stirred" ["_law_cell_here", "_law_salt"] 2 F__law_stirred := ⟨f1, _, ok__law_stirred F1, b1, k1, PySem.W.mg_of X G a1⟩
  have c__law_stream : CalP l.prog w K mg base 2 "_law_stream" ["_law_cell_here", "_law_many"] 2 F__law_stream := ⟨f2, _, ok__law_stream F2 c__law_stirred z_max z_range, b2, k2, PySem.W.mg_of X G a2⟩
  have c__law_letter : CalP l.prog w K mg base 1 "_law_letter" ["_law_cell_here"] 1 F__law_letter := ⟨f3, _, ok__law_letter F3, b3, k3, PySem.W.mg_of X G a3⟩
  have c__law_meaning_of : CalP l.prog w K mg base 2 "_law_meaning_of" ["_law_rest", "_law_layer", "_law_layers"] 3 F__law_meaning_of := ⟨f4, _, ok__law_meaning_of F4 c__law_letter z_max, b4, k4, PySem.W.mg_of X G a4⟩
  have c__law_read_bed : CalP l.prog w K mg base 3 "_law_read_bed" ["_law_xs"] 1 F__law_read_bed := ⟨f5, _, ok__law_read_bed F5 c__law_meaning_of c__law_letter z_range z_tuple z_len, b5, k5, PySem.W.mg_of X G a5⟩
  have c__law_wide : CalP l.prog w K mg base 2 "_law_wide" ["_law_cell_here", "_law_salt"] 2 F__law_wide := ⟨f6, _, ok__law_wide F6 c__law_stirred z_max, b6, k6, PySem.W.mg_of X G a6⟩
  have c__law_meaning : CalP l.prog w K mg base 2 "_law_meaning" ["_law_cell_here", "_law_layer", "_law_layers"] 3 F__law_meaning := ⟨f7, _, ok__law_meaning F7 c__law_letter z_max, b7, k7, PySem.W.mg_of X G a7⟩
  have c__law_bed : CalP l.prog w K mg base 4 "_law_bed" ["_law_script", "_law_at"] 2 F__law_bed := ⟨f8, _, ok__law_bed F8 c__law_cell c__law_stream c__law_read_bed c__law_wide c__law_meaning c__law_letter z_int z_range z_tuple z_len, b8, k8, PySem.W.mg_of X G a8⟩
  have c__law_word : CalP l.prog w K mg base 1 "_law_word" ["_law_meaning_here"] 1 F__law_word := ⟨f9, _, ok__law_word F9 z_str, b9, k9, PySem.W.mg_of X G a9⟩
  have c__law_text : CalP l.prog w K mg base 2 "_law_text" ["_law_bed_here"] 1 F__law_text := ⟨f10, _, ok__law_text F10 c__law_word z_str, b10, k10, PySem.W.mg_of X G a10⟩
  have c_shown_meaning : CalP l.prog w K mg base 1 "shown_meaning" ["meaning"] 1 F_shown_meaning := ⟨f11, _, ok_shown_meaning F11 z_str, b11, k11, PySem.W.mg_of X G a11⟩
  have c_shown_bed : CalP l.prog w K mg base 2 "shown_bed" ["bed"] 1 F_shown_bed := ⟨f12, _, ok_shown_bed F12 c_shown_meaning z_str, b12, k12, PySem.W.mg_of X G a12⟩
  have c_read_number : CalP l.prog w K mg base 1 "read_number" ["word"] 1 F_read_number := ⟨f13, _, ok_read_number F13 z_len z_all z_int m_FIGURES, b13, k13, PySem.W.mg_of X G a13⟩
  have c_all_read : CalP l.prog w K mg base 1 "all_read" ["values"] 1 F_all_read := ⟨f14, _, ok_all_read F14 z_tuple, b14, k14, PySem.W.mg_of X G a14⟩
  have c_read_numbers : CalP l.prog w K mg base 2 "read_numbers" ["words"] 1 F_read_numbers := ⟨f15, _, ok_read_numbers F15 c_read_number c_all_read z_len, b15, k15, PySem.W.mg_of X G a15⟩
  have c_is_letter : CalP l.prog w K mg base 1 "is_letter" ["text"] 1 F_is_letter := ⟨f16, _, ok_is_letter F16 z_len, b16, k16, PySem.W.mg_of X G a16⟩
  have c_read_meaning : CalP l.prog w K mg base 2 "read_meaning" ["word"] 1 F_read_meaning := ⟨f17, _, ok_read_meaning F17 c_is_letter c_read_number c_all_read, b17, k17, PySem.W.mg_of X G a17⟩
  have c_read_layer : CalP l.prog w K mg base 3 "read_layer" ["words"] 1 F_read_layer := ⟨f18, _, ok_read_layer F18 c_read_meaning c_all_read z_len, b18, k18, PySem.W.mg_of X G a18⟩
  have c_read_parted : CalP l.prog w K mg base 2 "read_parted" ["text", "sign"] 2 F_read_parted := ⟨f19, _, ok_read_parted F19 c_read_number c_all_read, b19, k19, PySem.W.mg_of X G a19⟩
  have c_read_chord : CalP l.prog w K mg base 3 "read_chord" ["words"] 1 F_read_chord := ⟨f20, _, ok_read_chord F20 c_is_letter c_read_parted z_len, b20, k20, PySem.W.mg_of X G a20⟩
  have c_check_numbers : CalP l.prog w K mg base 1 "check_numbers" ["bed"] 1 F_check_numbers := ⟨f21, _, ok_check_numbers F21 z_len m_MOST_KEYS m_MOST_LAYERS m_MOST_CHORDS m_MOST_WAIT, b21, k21, PySem.W.mg_of X G a21⟩
  have c_may_mean : CalP l.prog w K mg base 2 "may_mean" ["meaning", "layer", "layers"] 3 F_may_mean := ⟨f22, _, ok_may_mean F22 c_is_letter, b22, k22, PySem.W.mg_of X G a22⟩
  have c_check_layer : CalP l.prog w K mg base 3 "check_layer" ["bed", "layer"] 2 F_check_layer := ⟨f23, _, ok_check_layer F23 c_may_mean z_len z_enumerate, b23, k23, PySem.W.mg_of X G a23⟩
  have c_rises : CalP l.prog w K mg base 1 "rises" ["keys"] 1 F_rises := ⟨f24, _, ok_rises F24 z_all z_zip, b24, k24, PySem.W.mg_of X G a24⟩
  have c_is_chord_set : CalP l.prog w K mg base 2 "is_chord_set" ["bed", "keys"] 2 F_is_chord_set := ⟨f25, _, ok_is_chord_set F25 c_rises z_len z_all, b25, k25, PySem.W.mg_of X G a25⟩
  have c_check_chord : CalP l.prog w K mg base 3 "check_chord" ["bed", "place"] 2 F_check_chord := ⟨f26, _, ok_check_chord F26 c_is_letter c_is_chord_set, b26, k26, PySem.W.mg_of X G a26⟩
  have c_checked : CalP l.prog w K mg base 4 "checked" ["bed"] 1 F_checked := ⟨f27, _, ok_checked F27 c_check_numbers c_check_layer c_check_chord z_range z_len, b27, k27, PySem.W.mg_of X G a27⟩
  have c_read_bed : CalP l.prog w K mg base 5 "read_bed" ["text"] 1 F_read_bed := ⟨f28, _, ok_read_bed F28 c_read_numbers c_read_layer c_read_chord c_checked z_enumerate z_tuple, b28, k28, PySem.W.mg_of X G a28⟩
  have c__law_whole : CalP l.prog w K mg base 1 "_law_whole" ["_law_thing"] 1 F__law_whole := ⟨f29, _, ok__law_whole F29 z_isinstance z_int z_bool, b29, k29, PySem.W.mg_of X G a29⟩
  have c__law_like : CalP l.prog w K mg base 1 "_law_like" ["_law_found", "_law_due"] 2 F__law_like_0 := ⟨f30, _, (ok_bad (f := f30) rfl : FnOk l.prog w K mg base CX0 1 f30 (PySem.W.fnOf "_law_like" "_law_like" (defArgs (top 41)) (defBody (top 41)) (defScope (top 41)) .none kV30 dc30 pm30 an30 cd30 ct30) ["_law_found", "_law_due"] (spP K 2 badF)), b30, k30, PySem.W.mg_of X G a30⟩
  have c__law_like : CalP l.prog w K mg base 2 "_law_like" ["_law_found", "_law_due"] 2 F__law_like_1 := ⟨f30, _, ok__law_like_1 F30 c__law_whole z_isinstance z_tuple z_len z_all z_zip z_str c__law_like, b30, k30, PySem.W.mg_of X G a30⟩
  have c__law_like : CalP l.prog w K mg base 3 "_law_like" ["_law_found", "_law_due"] 2 F__law_like_2 := ⟨f30, _, ok__law_like_2 F30 c__law_whole z_isinstance z_tuple z_len z_all z_zip z_str c__law_like, b30, k30, PySem.W.mg_of X G a30⟩
  have c__law_like : CalP l.prog w K mg base 4 "_law_like" ["_law_found", "_law_due"] 2 F__law_like_3 := ⟨f30, _, ok__law_like_3 F30 c__law_whole z_isinstance z_tuple z_len z_all z_zip z_str c__law_like, b30, k30, PySem.W.mg_of X G a30⟩
  have c__law_like : CalP l.prog w K mg base 5 "_law_like" ["_law_found", "_law_due"] 2 F__law_like_4 := ⟨f30, _, ok__law_like_4 F30 c__law_whole z_isinstance z_tuple z_len z_all z_zip z_str c__law_like, b30, k30, PySem.W.mg_of X G a30⟩
  have c__law_like : CalP l.prog w K mg base 6 "_law_like" ["_law_found", "_law_due"] 2 F__law_like_5 := ⟨f30, _, ok__law_like_5 F30 c__law_whole z_isinstance z_tuple z_len z_all z_zip z_str c__law_like, b30, k30, PySem.W.mg_of X G a30⟩
  have c__law_like : CalP l.prog w K mg base 7 "_law_like" ["_law_found", "_law_due"] 2 F__law_like_6 := ⟨f30, _, ok__law_like_6 F30 c__law_whole z_isinstance z_tuple z_len z_all z_zip z_str c__law_like, b30, k30, PySem.W.mg_of X G a30⟩
  have c__law_there_and_back : CalP l.prog w K mg base 8 "_law_there_and_back" ["_law_bed_here"] 1 F__law_there_and_back := ⟨f31, _, ok__law_there_and_back F31 c__law_text c_shown_bed c_read_bed c__law_like z_isinstance z_str, b31, k31, PySem.W.mg_of X G a31⟩
  exact ok_law F32 c__law_bed c__law_there_and_back
end K23
noncomputable def PySem.W.Fast.tw5291214259384999442 : Unit := ()
noncomputable def PySem.W.Fast.tw15673563808918252819 : Unit := ()
noncomputable def PySem.W.Fast.tw5164054554197388435 : Unit := ()
noncomputable def PySem.W.Fast.tw7445695673739597742 : Unit := ()
noncomputable def PySem.W.Fast.tw18069412433593261705 : Unit := ()
noncomputable def PySem.W.Fast.tw4809322594686460434 : Unit := ()
open PySem PySem.W PyProof.Rows
set_option maxRecDepth 100000 in
set_option maxHeartbeats 0 in
theorem PySem.Challenge.cw_chordbed_k23_beds_written_holds : PySem.Challenge.rw_chordbed_k23_beds_written.Holds := by
  w_on; o_law; k_head; (case hw => w_witness2)
  k_fill
  refine L3.walkX (l := PySem.Challenge.rw_chordbed_k23_beds_written) (n := 63) (k := 9) (x := "_law_script") (F := K23.F_law) rfl (by decide) rfl ⟨rfl, by decide, by decide⟩ (fun w h Y => PySem.W.kIn_of Y) ?F K23.main
  case F =>
    intro w mg fa h KX G hmg
    refine' K23.all_mk KX G hmg ?a0 ?l0 ?c0 ?k0 ?a1 ?l1 ?c1 ?k1 ?a2 ?l2 ?c2 ?k2 ?a3 ?l3 ?c3 ?k3 ?a4 ?l4 ?c4 ?k4 ?a5 ?l5 ?c5 ?k5 ?a6 ?l6 ?c6 ?k6 ?a7 ?l7 ?c7 ?k7 ?a8 ?l8 ?c8 ?k8 ?a9 ?l9 ?c9 ?k9 ?a10 ?l10 ?c10 ?k10 ?a11 ?l11 ?c11 ?k11 ?a12 ?l12 ?c12 ?k12 ?a13 ?l13 ?c13 ?k13 ?a14 ?l14 ?c14 ?k14 ?a15 ?l15 ?c15 ?k15 ?a16 ?l16 ?c16 ?k16 ?a17 ?l17 ?c17 ?k17 ?a18 ?l18 ?c18 ?k18 ?a19 ?l19 ?c19 ?k19 ?a20 ?l20 ?c20 ?k20 ?a21 ?l21 ?c21 ?k21 ?a22 ?l22 ?c22 ?k22 ?a23 ?l23 ?c23 ?k23 ?a24 ?l24 ?c24 ?k24 ?a25 ?l25 ?c25 ?k25 ?a26 ?l26 ?c26 ?k26 ?a27 ?l27 ?c27 ?k27 ?a28 ?l28 ?c28 ?k28 ?a29 ?l29 ?c29 ?k29 ?a30 ?l30 ?c30 ?k30 ?a31 ?l31 ?c31 ?k31 ?a32 ?l32 ?c32 ?k32 ?aW_FIGURES ?aW_MOST_KEYS ?aW_MOST_LAYERS ?aW_MOST_CHORDS ?aW_MOST_WAIT ?y_max ?y_range ?y_tuple ?y_len ?y_int ?y_str ?y_all ?y_enumerate ?y_zip ?y_isinstance ?y_bool
    (case a0 => k_is)
    (case l0 => k_is)
    (case c0 => k_is)
    (case k0 => k_is)
    (case a1 => k_is)
    (case l1 => k_is)
    (case c1 => k_is)
    (case k1 => k_is)
    (case a2 => k_is)
    (case l2 => k_is)
    (case c2 => k_is)
    (case k2 => k_is)
    (case a3 => k_is)
    (case l3 => k_is)
    (case c3 => k_is)
    (case k3 => k_is)
    (case a4 => k_is)
    (case l4 => k_is)
    (case c4 => k_is)
    (case k4 => k_is)
    (case a5 => k_is)
    (case l5 => k_is)
    (case c5 => k_is)
    (case k5 => k_is)
    (case a6 => k_is)
    (case l6 => k_is)
    (case c6 => k_is)
    (case k6 => k_is)
    (case a7 => k_is)
    (case l7 => k_is)
    (case c7 => k_is)
    (case k7 => k_is)
    (case a8 => k_is)
    (case l8 => k_is)
    (case c8 => k_is)
    (case k8 => k_is)
    (case a9 => k_is)
    (case l9 => k_is)
    (case c9 => k_is)
    (case k9 => k_is)
    (case a10 => k_is)
    (case l10 => k_is)
    (case c10 => k_is)
    (case k10 => k_is)
    (case a11 => k_is)
    (case l11 => k_is)
    (case c11 => k_is)
    (case k11 => k_is)
    (case a12 => k_is)
    (case l12 => k_is)
    (case c12 => k_is)
    (case k12 => k_is)
    (case a13 => k_is)
    (case l13 => k_is)
    (case c13 => k_is)
    (case k13 => k_is)
    (case a14 => k_is)
    (case l14 => k_is)
    (case c14 => k_is)
    (case k14 => k_is)
    (case a15 => k_is)
    (case l15 => k_is)
    (case c15 => k_is)
    (case k15 => k_is)
    (case a16 => k_is)
    (case l16 => k_is)
    (case c16 => k_is)
    (case k16 => k_is)
    (case a17 => k_is)
    (case l17 => k_is)
    (case c17 => k_is)
    (case k17 => k_is)
    (case a18 => k_is)
    (case l18 => k_is)
    (case c18 => k_is)
    (case k18 => k_is)
    (case a19 => k_is)
    (case l19 => k_is)
    (case c19 => k_is)
    (case k19 => k_is)
    (case a20 => k_is)
    (case l20 => k_is)
    (case c20 => k_is)
    (case k20 => k_is)
    (case a21 => k_is)
    (case l21 => k_is)
    (case c21 => k_is)
    (case k21 => k_is)
    (case a22 => k_is)
    (case l22 => k_is)
    (case c22 => k_is)
    (case k22 => k_is)
    (case a23 => k_is)
    (case l23 => k_is)
    (case c23 => k_is)
    (case k23 => k_is)
    (case a24 => k_is)
    (case l24 => k_is)
    (case c24 => k_is)
    (case k24 => k_is)
    (case a25 => k_is)
    (case l25 => k_is)
    (case c25 => k_is)
    (case k25 => k_is)
    (case a26 => k_is)
    (case l26 => k_is)
    (case c26 => k_is)
    (case k26 => k_is)
    (case a27 => k_is)
    (case l27 => k_is)
    (case c27 => k_is)
    (case k27 => k_is)
    (case a28 => k_is)
    (case l28 => k_is)
    (case c28 => k_is)
    (case k28 => k_is)
    (case a29 => k_is)
    (case l29 => k_is)
    (case c29 => k_is)
    (case k29 => k_is)
    (case a30 => k_is)
    (case l30 => k_is)
    (case c30 => k_is)
    (case k30 => k_is)
    (case a31 => k_is)
    (case l31 => k_is)
    (case c31 => k_is)
    (case k31 => k_is)
    (case a32 => k_is)
    (case l32 => k_is)
    (case c32 => k_is)
    (case k32 => k_is)
    (case aW_FIGURES => k_is)
    (case aW_MOST_KEYS => k_is)
    (case aW_MOST_LAYERS => k_is)
    (case aW_MOST_CHORDS => k_is)
    (case aW_MOST_WAIT => k_is)
    (case y_max => k_is)
    (case y_range => k_is)
    (case y_tuple => k_is)
    (case y_len => k_is)
    (case y_int => k_is)
    (case y_str => k_is)
    (case y_all => k_is)
    (case y_enumerate => k_is)
    (case y_zip => k_is)
    (case y_isinstance => k_is)
    (case y_bool => k_is)
