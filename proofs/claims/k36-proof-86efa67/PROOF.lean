import PyProof.Rows.All
import Wide.All
import OpenK.AllK
import Wide.FinOn
import Lean
import PyProof.EqAt
import PyProof.EqKinds
import PyProof.TupleCall
import PyProof.NeKinds
import PySem.Challenge.RW_nolitter_k36_plans_of_least_work
set_option Elab.async false
set_option linter.all false
set_option maxRecDepth 100000
/-! THE HAND LAYER, for ints, bools, texts, own classes, LISTS and tuples (index, slices, in, append, pop ..), calls, loops. Paste it whole ahead of your own text; what your proof does not reach may be deleted. -/
namespace L2
open PySem PySem.Spec PyProof.Rows

/-- a key: an int or a str -/
noncomputable abbrev Key := Sum Int Str
noncomputable def keyIs : Key → Value → Bool
  | .inl k, v => Value.isInt k v
  | .inr x, v => Value.isStrOf x v
noncomputable def keyH (w : World) : Key → Int
  | .inl k => hashInt k
  | .inr x => hashStr w x
theorem keyIs_shape : ∀ {k : Key} {v : Value}, keyIs k v = true → (∃ i t, k = Sum.inl i ∧ v = Value.int i t) ∨ (∃ x t, k = Sum.inr x ∧ v = Value.str x t)
  | .inl i, v, h => by
    obtain ⟨t, e⟩ := Value.isInt_shape (k := i) (v := v) h
    exact .inl ⟨i, t, rfl, e⟩
  | .inr x, v, h => by
    obtain ⟨t, e⟩ := Value.isStrOf_shape (x := x) (v := v) h
    exact .inr ⟨x, t, rfl, e⟩
theorem keyIs_int (i : Int) (t : Tok) : keyIs (.inl i) (.int i t) = true := by simp [keyIs, Value.isInt]
theorem keyIs_str (x : Str) (t : Tok) : keyIs (.inr x) (.str x t) = true := by simp [keyIs, Value.isStrOf]
theorem key_ll (a b : Int) : decide ((Sum.inl a : Key) = Sum.inl b) = (a == b) := by
  by_cases e : a = b
  · subst e; simp
  · have h : ¬ (Sum.inl a : Key) = Sum.inl b := fun q => e (Sum.inl.inj q)
    rw [decide_eq_false h]
    exact (beq_eq_false_iff_ne.mpr e).symm
theorem key_rr (a b : Str) : decide ((Sum.inr a : Key) = Sum.inr b) = decide (a = b) := by
  by_cases e : a = b
  · subst e; simp
  · have h : ¬ (Sum.inr a : Key) = Sum.inr b := fun q => e (Sum.inr.inj q)
    rw [decide_eq_false h, decide_eq_false e]
theorem key_lr (a : Int) (b : Str) : decide ((Sum.inl a : Key) = Sum.inr b) = false := decide_eq_false (fun q => nomatch q)
theorem key_rl (a : Str) (b : Int) : decide ((Sum.inr a : Key) = Sum.inl b) = false := decide_eq_false (fun q => nomatch q)

noncomputable def mixKind (prog : Program) (w : World) : PySem.KeyKind prog w Key where
  is := keyIs
  hash := keyH w
  inj := fun v a b ha hb => by
    rcases keyIs_shape ha with ⟨i, t, rfl, rfl⟩ | ⟨x, t, rfl, rfl⟩
    · rcases keyIs_shape hb with ⟨j, u, rfl, e⟩ | ⟨y, u, rfl, e⟩
      · injection e with e1 _; rw [e1]
      · exact nomatch e
    · rcases keyIs_shape hb with ⟨j, u, rfl, e⟩ | ⟨y, u, rfl, e⟩
      · exact nomatch e
      · injection e with e1 _; rw [e1]
  byValue := fun k v h => by
    rcases keyIs_shape h with ⟨i, t, rfl, rfl⟩ | ⟨x, t, rfl, rfl⟩ <;> rfl
  pyHash := fun hv h => by
    rcases keyIs_shape hv with ⟨i, t, rfl, rfl⟩ | ⟨x, t, rfl, rfl⟩
    · exact wpAny_pyHash_int h
    · exact wpAny_pyHash_str h
  eqBool := fun hu hv h => by
    rcases keyIs_shape hu with ⟨i, t, rfl, rfl⟩ | ⟨x, t, rfl, rfl⟩
    · rcases keyIs_shape hv with ⟨j, u, rfl, rfl⟩ | ⟨y, u, rfl, rfl⟩
      · rw [key_ll] at h; exact wpAny_eqBool_int h
      · rw [key_lr] at h; exact SeqAt.EqAt.int_str i t y u _ _ _ _ h
    · rcases keyIs_shape hv with ⟨j, u, rfl, rfl⟩ | ⟨y, u, rfl, rfl⟩
      · rw [key_rl] at h; exact SeqAt.EqAt.str_int x t j u _ _ _ _ h
      · rw [key_rr] at h; exact wpAny_eqBool_str h
  «strs» := fun k x t v h => by
    rcases keyIs_shape h with ⟨i, u, rfl, e⟩ | ⟨y, u, rfl, e⟩
    · exact nomatch e
    · injection e with e1 _
      subst e1
      cases v <;> rfl

theorem mixKind_int (prog : Program) (w : World) (i : Int) (t : Tok) : (mixKind prog w).is (.inl i) (.int i t) = true := keyIs_int i t
theorem mixKind_str (prog : Program) (w : World) (x : Str) (t : Tok) : (mixKind prog w).is (.inr x) (.str x t) = true := keyIs_str x t
end L2

namespace L2
open PySem PySem.Spec PyProof.Rows

/-- a value, without the heap -/
inductive V where
  | non | bl (b : Bool) | int (i : Int) | str (x : Str) | byt (b : Array UInt8) | flt (b : UInt64) | ref (a : Addr) | ty (n : String)
  deriving DecidableEq

noncomputable def RelV : V → Value → Prop
  | .non, u => u = Value.none
  | .bl b, u => u = Value.bool b
  | .int i, u => ∃ t, u = Value.int i t
  | .str x, u => ∃ t, u = Value.str x t
  | .byt b, u => ∃ t, u = Value.bytes b t
  | .flt b, u => ∃ t, u = Value.float b t
  | .ref a, u => u = Value.ref a
  | .ty n, u => u = Value.type n

noncomputable abbrev Vals : List V → List Value → Prop := Paired RelV
theorem Vals.length {xs : List V} {us : List Value} (r : Vals xs us) : xs.length = us.length := Paired.length r
theorem Vals.get : ∀ {xs : List V} {us : List Value} {i : Nat} {x : V}, Vals xs us → xs[i]? = some x → ∃ u, us[i]? = some u ∧ RelV x u
  | _, _, _, _, .nil, e => by simp at e
  | _, _, 0, _, .cons r _, e => by simp at e; subst e; exact ⟨_, rfl, r⟩
  | _, _, i + 1, x, .cons _ t, e => by
    obtain ⟨u, h1, h2⟩ := Vals.get (i := i) (x := x) t (by simpa using e)
    exact ⟨u, by simpa using h1, h2⟩
theorem Vals.set {x : V} {u : Value} (r : RelV x u) : ∀ {xs : List V} {us : List Value} (i : Nat), Vals xs us → Vals (xs.set i x) (us.set i u)
  | _, _, _, .nil => .nil
  | _, _, 0, .cons _ t => .cons r t
  | _, _, i + 1, .cons q t => .cons q (Vals.set r i t)
theorem Vals.append : ∀ {xs ys : List V} {us ws : List Value}, Vals xs us → Vals ys ws → Vals (xs ++ ys) (us ++ ws)
  | _, _, _, _, .nil, s => s
  | _, _, _, _, .cons r t, s => .cons r (Vals.append t s)
theorem Vals.take : ∀ {xs : List V} {us : List Value} (n : Nat), Vals xs us → Vals (xs.take n) (us.take n)
  | _, _, 0, _ => .nil
  | _, _, _ + 1, .nil => .nil
  | _, _, n + 1, .cons r t => .cons r (Vals.take n t)
theorem Vals.drop : ∀ {xs : List V} {us : List Value} (n : Nat), Vals xs us → Vals (xs.drop n) (us.drop n)
  | _, _, 0, r => r
  | _, _, _ + 1, .nil => .nil
  | _, _, n + 1, .cons _ t => Vals.drop n t
theorem Vals.none_of : ∀ {xs : List V} {us : List Value} {i : Nat}, Vals xs us → xs[i]? = none → us[i]? = none := fun {xs us i} r e => by
  have h1 := r.length
  have h2 : xs.length ≤ i := List.getElem?_eq_none_iff.mp e
  exact List.getElem?_eq_none_iff.mpr (by omega)

noncomputable def RelO : Option V → Option Value → Prop
  | some v, some u => RelV v u
  | none, none => True
  | _, _ => False
noncomputable def KV {κ : Type} : List (κ × V) → List (κ × Value) → Prop := Paired fun (p : κ × V) (q : κ × Value) => p.1 = q.1 ∧ RelV p.2 q.2

/-- a key of a dict (00_mix): an int or a text -/
noncomputable def kV : Key → V
  | .inl i => .int i
  | .inr x => .str x

/-- what stands at a tracked address -/
inductive HO where
  /-- a list -/
  | lst (xs : List V)
  /-- a tuple (never changes) -/
  | tup (xs : List V)
  /-- a dict whose keys are ints and texts; one whose keys are tuples of ints and texts (the empty one is both) -/
  | dK (kvs : List (Key × V)) | dT (kvs : List (List Key × V))
  /-- a set of ints: its members, its size -/
  | set (S : Int → Bool) (n : Nat)
  /-- an instance of the class at C, its dict at dx, its attributes -/
  | ins (C dx : Addr) (fs : List (Str × V))
  /-- the dict of the instance at x -/
  | own (x : Addr)
  /-- the dict of an exception -/
  | xd (fs : List (Str × V))
  /-- a bound method, f of x -/
  | met (f x : Addr)
  /-- a range object lo, lo + 1, .. below hi -/
  | rng (lo hi : Int)
  /-- a thing that is known to the object (the script; a dict while a loop walks it): read, never written while it is so -/
  | frz (o : Obj) (u : HO)
  /-- a code object's table -/
  | tbl (ps : Array Value)
  /-- any other thing, by what is true of its one object (a def of one's own: SetO a S n := HO.ext fun h => ..) -/
  | ext (φ : Heap → Prop)

noncomputable abbrev Hp := Addr → Option HO
noncomputable def upd (H : Hp) (a : Addr) (o : HO) : Hp := fun b => if b = a then some o else H b
theorem upd_same {H : Hp} {a : Addr} {o : HO} : upd H a o a = some o := by unfold upd; rw [if_pos rfl]
theorem upd_ne {H : Hp} {a b : Addr} {o : HO} (h : b ≠ a) : upd H a o b = H b := by unfold upd; rw [if_neg h]
/-- two objects of different content stand apart -/
theorem ne_of {H : Hp} {a b : Addr} {o u : HO} (h : H a = some o) (h' : H b = some u) (d : o ≠ u) : a ≠ b := by
  intro e; subst e; rw [h] at h'; exact d (Option.some.inj h')
theorem ne_of_none {H : Hp} {a b : Addr} {o : HO} (h : H a = some o) (h' : H b = none) : a ≠ b := by
  intro e; subst e; rw [h] at h'; cases h'

section
variable (P : Program) (w : World)
noncomputable def ObjOk (H : Hp) (h : Heap) (a : Addr) : HO → Prop
  | .lst xs => xs.length ≤ sizeLine ∧ ∃ (its : List Value) (n : Nat), Vals xs its ∧ h.get? a = some { cls := .type "list", data := .seq its.toArray n }
  | .tup xs => xs.length ≤ sizeLine ∧ ∃ its : List Value, Vals xs its ∧ IsTup h a its.toArray
  | .dK kvs => kvs.length ≤ sizeLine ∧ (a == sysModules) = false ∧ ∃ vs, KV kvs vs ∧ h.DictOf (mixKind P w) a vs
  | .dT kvs => kvs.length ≤ sizeLine ∧ (a == sysModules) = false ∧ ∃ xs : List (List Key × Addr × Value),
      Paired (fun (p : List Key × V) (q : List Key × Addr × Value) => p.1 = q.1 ∧ H q.2.1 = some (.tup (p.1.map kV)) ∧ RelV p.2 q.2.2) kvs xs ∧
      ∃ o es ep, h.get? a = some o ∧ o.ExactDict ∧ o.data = .dict es ep ∧ es.toList = xs.map (entryOfKey (tupleKind (mixKind P w))) ∧ (xs.map (·.1)).Nodup
  | .set S n => h.SetOf (intKind P w) a S n
  | .ins C dx fs => H dx = some (.own a) ∧ fs.length ≤ 1000 ∧ dx ≠ a ∧ h.get? a = some (PySem.W.instObj C dx) ∧
      ∃ mA, h.Ns1 dx mA ∧ (∀ f, RelO (fs.lookup f) (mA f)) ∧ PySem.Within mA (fs.map (·.1))
  | .own _ => ∃ o, h.get? a = some o
  | .xd fs => ∃ mA, h.Ns1 a mA ∧ ∀ f, RelO (fs.lookup f) (mA f)
  | .rng lo hi => ∃ t u v, h.get? a = some { cls := .type "range", data := .fields #[.int lo t, .int hi u, .int 1 v] }
  | .frz o u => h.get? a = some o ∧ ObjOk H h a u
  | .tbl ps => h.get? a = some { cls := .none, data := .fields ps }
  | .met f x => h.get? a = some (PySem.W.methodObj (.ref f) (.ref x))
  | .ext φ => φ h ∧ (∃ o, h.get? a = some o) ∧ ∀ h1 h2 : Heap, φ h1 → (∀ o, h1.get? a = some o → h2.get? a = some o) → φ h2
/-- the abstract heap is held -/
noncomputable def HOk (H : Hp) (h : Heap) : Prop := ∀ a o, H a = some o → ObjOk P w H h a o
end

section
variable {P : Program} {w : World} {H H' : Hp} {h h' : Heap} {a : Addr} {o : HO}
theorem ObjOk.lt (x : ObjOk P w H h a o) : a < h.objs.size := by
  cases o with
  | lst xs => obtain ⟨_, _, _, _, e⟩ := x; exact Heap.lt_size e
  | tup xs => obtain ⟨_, _, _, p⟩ := x; exact p.lt
  | dK kvs => obtain ⟨_, _, _, _, o, _, _, e, _⟩ := x; exact Heap.lt_size e
  | dT kvs => obtain ⟨_, _, _, _, o, _, _, e, _⟩ := x; exact Heap.lt_size e
  | set S n => obtain ⟨o, _, _, _, e, _⟩ := x; exact Heap.lt_size e
  | ins C dx fs => obtain ⟨_, _, _, e, _⟩ := x; exact Heap.lt_size e
  | own y => obtain ⟨_, e⟩ := x; exact Heap.lt_size e
  | xd fs => obtain ⟨_, ⟨_, _, _, e, _⟩, _⟩ := x; exact Heap.lt_size e
  | rng lo hi => obtain ⟨_, _, _, e⟩ := x; exact Heap.lt_size e
  | frz ob u => obtain ⟨e, _⟩ := x; exact Heap.lt_size e
  | tbl ps => exact Heap.lt_size (show h.get? a = some _ from x)
  | met f y => exact Heap.lt_size (show h.get? a = some _ from x)
  | ext φ => obtain ⟨_, ⟨_, e⟩, _⟩ := x; exact Heap.lt_size e
theorem Paired.mapP {α β : Type} {F G : α → β → Prop} : ∀ {l₁ : List α} {l₂ : List β}, Paired F l₁ l₂ → (∀ a b, F a b → G a b) → Paired G l₁ l₂
  | _, _, .nil, _ => .nil
  | _, _, .cons r t, f => .cons (f _ _ r) (Paired.mapP t f)
/-- what an object's description leans on: its own object, its own dict, the tuples -/
theorem ObjOk.stay (x : ObjOk P w H h a o) (k : ∀ b u, (b = a ∨ H b = some (.own a)) → h.get? b = some u → h'.get? b = some u)
    (ho : ∀ b, H b = some (.own a) → H' b = some (.own a)) (ht : ∀ b xs, H b = some (.tup xs) → H' b = some (.tup xs)) : ObjOk P w H' h' a o := by
  induction o with
  | lst xs => obtain ⟨z, its, n, r, e⟩ := x; exact ⟨z, its, n, r, k _ _ (.inl rfl) e⟩
  | tup xs => obtain ⟨z, its, r, ob, e, c⟩ := x; exact ⟨z, its, r, ob, k _ _ (.inl rfl) e, c⟩
  | dK kvs => obtain ⟨z, y, vs, r, ob, es, ep, e, c⟩ := x; exact ⟨z, y, vs, r, ob, es, ep, k _ _ (.inl rfl) e, c⟩
  | dT kvs =>
    obtain ⟨z, y, xs, r, ob, es, ep, e, c⟩ := x
    exact ⟨z, y, xs, Paired.mapP r fun p q z => ⟨z.1, ht _ _ z.2.1, z.2.2⟩, ob, es, ep, k _ _ (.inl rfl) e, c⟩
  | set S n => obtain ⟨ob, es, ep, t, e, c⟩ := x; exact ⟨ob, es, ep, t, k _ _ (.inl rfl) e, c⟩
  | ins C dx fs =>
    obtain ⟨d, z, ne, e, mA, ⟨od, es, ep, e2, c⟩, r⟩ := x
    exact ⟨ho _ d, z, ne, k _ _ (.inl rfl) e, mA, ⟨od, es, ep, k _ _ (.inr d) e2, c⟩, r⟩
  | own y => obtain ⟨ob, e⟩ := x; exact ⟨ob, k _ _ (.inl rfl) e⟩
  | xd fs => obtain ⟨mA, ⟨od, es, ep, e, c⟩, r⟩ := x; exact ⟨mA, ⟨od, es, ep, k _ _ (.inl rfl) e, c⟩, r⟩
  | rng lo hi => obtain ⟨t, u, v, e⟩ := x; exact ⟨t, u, v, k _ _ (.inl rfl) e⟩
  | frz ob u ih => obtain ⟨e, q⟩ := x; exact ⟨k _ _ (.inl rfl) e, ih q⟩
  | tbl ps =>
    have e : h.get? a = some { cls := .none, data := .fields ps } := x
    show h'.get? a = some { cls := .none, data := .fields ps }
    exact k a _ (.inl rfl) e
  | met f y =>
    have e : h.get? a = some (PySem.W.methodObj (.ref f) (.ref y)) := x
    show h'.get? a = some (PySem.W.methodObj (.ref f) (.ref y))
    exact k a _ (.inl rfl) e
  | ext φ => obtain ⟨p, ⟨o, e⟩, st⟩ := x; exact ⟨st _ _ p fun o q => k _ _ (.inl rfl) q, ⟨o, k _ _ (.inl rfl) e⟩, st⟩
theorem HOk.lt (x : HOk P w H h) (e : H a = some o) : a < h.objs.size := (x a o e).lt
theorem HOk.fresh (x : HOk P w H h) (e : h.objs.size ≤ a) : H a = none := by
  cases q : H a with
  | none => rfl
  | some u => exact absurd (Nat.lt_of_lt_of_le (x.lt q) e) (Nat.lt_irrefl _)
/-- every object of the heap is kept -/
theorem HOk.kept (x : HOk P w H h) (k : ∀ b u, h.get? b = some u → h'.get? b = some u) : HOk P w H h' := fun a o e =>
  (x a o e).stay (fun b u _ q => k b u q) (fun _ q => q) fun _ _ q => q
/-- a new object is laid and tracked -/
theorem HOk.laid (x : HOk P w H h) (k : ∀ b u, h.get? b = some u → h'.get? b = some u) (hp : h.objs.size ≤ a) (new : ObjOk P w (upd H a o) h' a o) : HOk P w (upd H a o) h' := fun b u e => by
  have hn := x.fresh hp
  by_cases hb : b = a
  · subst hb; rw [upd_same] at e; cases e; exact new
  · rw [upd_ne hb] at e
    exact (x b u e).stay (fun c v _ q => k c v q) (fun c q => by rw [upd_ne (ne_of_none q hn)]; exact q) fun c xs q => by rw [upd_ne (ne_of_none q hn)]; exact q
end

/-- what may be read as u: it is u, or a known u -/
noncomputable def Rd (H : Hp) (a : Addr) (u : HO) : Prop := H a = some u ∨ ∃ o, H a = some (.frz o u)
theorem Rd.of {H : Hp} {a : Addr} {u : HO} (h : H a = some u) : Rd H a u := .inl h
theorem Rd.ok {P : Program} {w : World} {H : Hp} {h : Heap} {a : Addr} {u : HO} (r : Rd H a u) (x : HOk P w H h) : ObjOk P w H h a u := by
  rcases r with r | ⟨o, r⟩
  · exact x a u r
  · obtain ⟨_, q⟩ := x a _ r
    exact q
/-- what may be written -/
noncomputable def Mut : Option HO → Prop
  | some (.lst _) => True
  | some (.dK _) => True
  | some (.dT _) => True
  | some (.set _ _) => True
  | some (.ins _ _ _) => True
  | some (.ext _) => True
  | _ => False
section
variable {P : Program} {w : World} {H : Hp} {h h' : Heap} {x e : Addr} {o' : HO}
/-- the object at e is changed: x itself, or the dict of the instance x -/
theorem HOk.write (ok : HOk P w H h) (mu : Mut (H x)) (he : e = x ∨ H e = some (.own x)) (k : ∀ b u, b ≠ e → h.get? b = some u → h'.get? b = some u) (heo : ∃ u, h'.get? e = some u)
    (new : ObjOk P w (upd H x o') h' x o') : HOk P w (upd H x o') h' := fun b u q => by
  have nown : ∀ c y, H c = some (.own y) → c ≠ x := fun c y r z => by subst z; rw [r] at mu; exact mu
  have ntup : ∀ c xs, H c = some (.tup xs) → c ≠ x := fun c xs r z => by subst z; rw [r] at mu; exact mu
  by_cases hb : b = x
  · subst hb; rw [upd_same] at q; cases q; exact new
  · rw [upd_ne hb] at q
    by_cases hbe : b = e
    · have q' : H b = some (.own x) := by
        rcases he with z | z
        · exact absurd (hbe.trans z) hb
        · rw [hbe]; exact z
      rw [q] at q'; cases q'
      obtain ⟨v, hv⟩ := heo
      exact ⟨v, by rw [hbe]; exact hv⟩
    · refine (ok b u q).stay (fun c v hc r => k c v ?_ r) (fun c r => by rw [upd_ne (nown c b r)]; exact r) fun c xs r => by rw [upd_ne (ntup c xs r)]; exact r
      rcases hc with rfl | hc
      · exact hbe
      · rintro rfl
        rcases he with z | z
        · exact nown c b hc z
        · rw [hc] at z; cases z; exact hb rfl
end

/-! ### kept unless tracked; of the frames at fs (the callers') the slots may change (an exception that passes writes there); of the records at ex (iterators) nothing is said -/
structure Un (fs ex : List Addr) (H H' : Hp) (h h' : Heap) : Prop where
  keep : ∀ b o, h.get? b = some o → H b = none → b ∉ fs → b ∉ ex → h'.get? b = some o
  slot : ∀ b o, h.get? b = some o → H b = none → b ∈ fs → b ∉ ex → ∃ sl, h'.get? b = some { o with slots := sl }
  free : ∀ b o, h.get? b = some o → H b = none → b ∉ ex → H' b = none
  there : ∀ b o, h.get? b = some o → b ∉ ex → ∃ o', h'.get? b = some o'
  tups : ∀ b xs, H b = some (.tup xs) → H' b = some (.tup xs)
  frzs : ∀ b o u, H b = some (.frz o u) → H' b = some (.frz o u)
  tbls : ∀ b ps, H b = some (.tbl ps) → ∃ more, H' b = some (.tbl (ps ++ more))
section
variable {fs fs' ex ex' : List Addr} {H H1 H2 : Hp} {h h1 h2 h' : Heap} {a x e : Addr} {o : HO}
theorem Un.any (u : Un fs ex H H1 h h1) {b : Addr} {ob : Obj} (q : h.get? b = some ob) (n : H b = none) (hx : b ∉ ex) : ∃ sl, h1.get? b = some { ob with slots := sl } := by
  by_cases hb : b ∈ fs
  · exact u.slot b ob q n hb hx
  · exact ⟨ob.slots, u.keep b ob q n hb hx⟩
theorem Un.trans (a : Un fs ex H H1 h h1) (b : Un fs ex H1 H2 h1 h2) : Un fs ex H H2 h h2 where
  keep := fun c ob q n hc hx => b.keep c ob (a.keep c ob q n hc hx) (a.free c ob q n hx) hc hx
  slot := fun c ob q n hc hx => by
    obtain ⟨sl, e1⟩ := a.slot c ob q n hc hx
    obtain ⟨sl', e2⟩ := b.slot c _ e1 (a.free c ob q n hx) hc hx
    exact ⟨sl', e2⟩
  free := fun c ob q n hx => by
    obtain ⟨o', e1⟩ := a.there c ob q hx
    exact b.free c o' e1 (a.free c ob q n hx) hx
  there := fun c ob q hx => by
    obtain ⟨o', e1⟩ := a.there c ob q hx
    exact b.there c o' e1 hx
  tups := fun c xs q => b.tups c xs (a.tups c xs q)
  frzs := fun c ob xs q => b.frzs c ob xs (a.frzs c ob xs q)
  tbls := fun c ps q => by
    obtain ⟨m1, e1⟩ := a.tbls c ps q
    obtain ⟨m2, e2⟩ := b.tbls c _ e1
    exact ⟨m1 ++ m2, by rw [e2, Array.append_assoc]⟩
theorem Un.kept (k : ∀ b u, h.get? b = some u → h'.get? b = some u) : Un fs ex H H h h' :=
  ⟨fun b ob q _ _ _ => k b ob q, fun b ob q _ _ _ => ⟨ob.slots, k b ob q⟩, fun _ _ _ n _ => n, fun b ob q _ => ⟨ob, k b ob q⟩, fun _ _ q => q, fun _ _ _ q => q, fun _ ps q => ⟨#[], by rw [q]; simp⟩⟩
theorem Un.refl : Un fs ex H H h h := Un.kept fun _ _ q => q
theorem Un.laid (k : ∀ b u, h.get? b = some u → h'.get? b = some u) (hp : h.objs.size ≤ a) (hn : H a = none) : Un fs ex H (upd H a o) h h' where
  keep := fun b u q _ _ _ => k b u q
  slot := fun b u q _ _ _ => ⟨u.slots, k b u q⟩
  free := fun b u q n _ => by rw [upd_ne (Nat.ne_of_lt (Nat.lt_of_lt_of_le (Heap.lt_size q) hp))]; exact n
  there := fun b u q _ => ⟨u, k b u q⟩
  tups := fun b xs q => by rw [upd_ne (ne_of_none q hn)]; exact q
  frzs := fun b u xs q => by rw [upd_ne (ne_of_none q hn)]; exact q
  tbls := fun b ps q => ⟨#[], by rw [upd_ne (ne_of_none q hn), q]; simp⟩
theorem Un.write (mu : Mut (H x)) (he : e = x ∨ H e = some (.own x)) (k : ∀ b u, b ≠ e → h.get? b = some u → h'.get? b = some u) (heo : ∃ u, h'.get? e = some u) : Un fs ex H (upd H x o) h h' := by
  have hx : ∀ b, H b = none → b ≠ x := fun b n z => by subst z; rw [n] at mu; exact mu
  have hb : ∀ b, H b = none → b ≠ e := fun b n z => by
    subst z
    rcases he with r | r
    · exact hx b n r
    · rw [n] at r; cases r
  have hm : ∀ b u, H b = some u → ¬ Mut (some u) → b ≠ x := fun b u q nm z => by subst z; rw [q] at mu; exact nm mu
  refine ⟨fun b u q n _ _ => k b u (hb b n) q, fun b u q n _ _ => ⟨u.slots, k b u (hb b n) q⟩, fun b u q n _ => by rw [upd_ne (hx b n)]; exact n, fun b u q _ => ?_,
    fun b xs q => by rw [upd_ne (hm b _ q fun z => z)]; exact q, fun b u xs q => by rw [upd_ne (hm b _ q fun z => z)]; exact q, fun b ps q => ⟨#[], by rw [upd_ne (hm b _ q fun z => z), q]; simp⟩⟩
  by_cases hbe : b = e
  · subst hbe; exact heo
  · exact ⟨u, k b u hbe q⟩
end

/-! ### the heap without what is tracked -/
noncomputable def trk (h : Heap) (H : Hp) : List Addr := (List.range h.objs.size).filter fun a => (H a).isSome
noncomputable def hidT (h : Heap) (H : Hp) : Heap := PySem.W.hideAll h (trk h H)
theorem hidT_size (h : Heap) (H : Hp) : (hidT h H).objs.size = h.objs.size := PySem.W.hideAll_size _ _
theorem hidT_get {h : Heap} {H : Hp} {b : Addr} {o : Obj} (e : h.get? b = some o) (n : H b = none) : (hidT h H).get? b = some o :=
  PySem.W.hideAll_get _ e fun hm => by
    have q : (H b).isSome = true := (List.mem_filter.mp hm).2
    rw [n] at q; simp at q
theorem of_hidT {h : Heap} {H : Hp} {b : Addr} {o : Obj} (e : (hidT h H).get? b = some o) : h.get? b = some o ∧ H b = none := by
  have e' : h.get? b = some o := PySem.W.of_hideAll (trk h H) e
  refine ⟨e', ?_⟩
  cases q : H b with
  | none => rfl
  | some x =>
    have hm : b ∈ trk h H := List.mem_filter.mpr ⟨List.mem_range.mpr (Heap.lt_size e'), by simp [q]⟩
    have z : (hidT h H).get? b = none := PySem.W.hideAll_none (trk h H) hm
    rw [z] at e; cases e

/-! ### OpenK's ledger, filled with every new object but one -/
noncomputable def allNews (g h : Heap) (L : Addr) : List (Addr × Obj) := (List.range h.objs.size).filterMap fun a => if a = L ∨ (g.get? a).isSome = true then none else (h.get? a).map fun o => (a, o)
noncomputable def rest (g h : Heap) (L d : Addr) : List (Addr × Obj) := (allNews g h L).filter fun p => decide (p.1 ≠ d)
end L2

namespace L2
open PySem PySem.Spec PyProof.Rows

/-- the module's facts, over the base: the heap at the law's entry without what is tracked there -/
structure Mod (K : PySem.W.Frag) (mg : Str → Option Value) (base : Heap) : Prop where
  kin : K.In base
  glob : base.Ns mainGlobals mg
  blt : ∃ mb, base.Ns builtinsNs mb ∧ ∀ x : Str, x ≠ "__name__" → mb x = bootBuiltins x
  nolimit : base.NoLimit

/-- the context: a def's body (or a comprehension's block) running. base: fixed through the whole law; s₀, H₀: the entry; outer: the frames whose slots others may change (a def's callers); stack: all frames that run;
   ex: iterators that were made ahead of the entry and are walked here (a comprehension's); fn: the names whose cells were made at the entry (a def: all; a comprehension's block: its own); calm: not within an except suite; pn: pins that every state bears; xe: what is wanted of an exception that leaves the code -/
structure Cx where
  prog : Program
  w : World
  K : PySem.W.Frag
  mg : Str → Option Value
  base : Heap
  A : Around
  N : List Str
  s₀ : Shared
  H₀ : Hp
  env : Env
  outer : List Env
  stack : List Env
  ex : List Addr
  fn : Str → Bool
  calm : Bool
  pn : List (Addr × Obj)
  xe : Value → Shared → Prop
/-- the callers' frames -/
noncomputable def frs (l : List Env) : List Addr := l.filterMap (·.frame)
noncomputable abbrev Cx.fs (X : Cx) : List Addr := frs X.outer

noncomputable def Vis (sc : Scope) (x : Str) : Prop := sc.names.lookup x = some .local ∨ sc.names.lookup x = some .cell ∨ sc.names.lookup x = some .free
noncomputable def Loc (sc : Scope) (x : Str) : Prop := sc.names.lookup x = some .local ∨ sc.names.lookup x = some .cell
noncomputable def Look (env : Env) (h : Heap) (m : Str → Option Value) (x : Str) (u : Value) : Prop :=
  (env.kindOf x = some .local ∧ m x = some u) ∨ ((env.kindOf x = some .cell ∨ env.kindOf x = some .free) ∧ ∃ c, env.cells.lookup x = some c ∧ h.IsCell c (some u))

structure Cx.Ok (X : Cx) : Prop where
  mod : Mod X.K X.mg X.base
  kind : X.env.scope.kind = .function
  glob : X.env.globals = mainGlobals
  blt : X.env.builtins = builtinsNs
  above : X.s₀.heap.objs.size ≤ X.env.locals
  inj : ∀ x y c, X.env.cells.lookup x = some c → X.env.cells.lookup y = some c → x = y
  has : ∀ x, (X.env.kindOf x = some .cell ∨ X.env.kindOf x = some .free) → ∃ c, X.env.cells.lookup x = some c
  cab : ∀ x c, X.fn x = true → X.env.cells.lookup x = some c → X.s₀.heap.objs.size ≤ c
  hd : X.calm = true → X.A.handled = none
  frames : X.A.frames = some X.stack
  stk : X.stack = X.outer ∨ (X.stack = X.env :: X.outer ∧ X.env.frame = some X.env.locals)
  exf : ∀ b ∈ X.ex, b ≠ X.env.locals ∧ ∀ x c, X.env.cells.lookup x = some c → c ≠ b
  bs : ∀ b o, X.base.get? b = some o → X.s₀.heap.get? b = some o ∧ X.H₀ b = none
  bsz : X.base.objs.size ≤ X.s₀.heap.objs.size
  noex : ∀ b o, X.base.get? b = some o → b ∉ X.ex
  exfs : ∀ b ∈ X.ex, b ∉ X.fs
  funs : X.s₀.heap.FunFrames X.base X.outer
  frf : ∀ b ∈ X.fs, X.H₀ b = none

structure Inv (X : Cx) (pins : List (Addr × Obj)) (σ : List (Option V)) (H : Hp) (s : Shared) : Prop where
  ok : X.Ok
  os : s.os = X.s₀.os
  bare : AllBare s.gens
  base : Un X.fs X.ex X.H₀ H X.s₀.heap s.heap
  loc : ∃ m, s.heap.Ns X.env.locals m ∧ ∀ (i : Nat) (x : Str) (v : V), X.N[i]? = some x → σ[i]? = some (some v) → Vis X.env.scope x → ∃ u, RelV v u ∧ Look X.env s.heap m x u
  cell : ∀ x c, X.env.cells.lookup x = some c → ∃ v, s.heap.IsCell c v
  free : H X.env.locals = none
  freeC : ∀ x c, X.env.cells.lookup x = some c → H c = none
  pin : ∀ p ∈ X.pn ++ pins, s.heap.get? p.1 = some p.2 ∧ H p.1 = none ∧ p.1 ≠ X.env.locals ∧ p.1 ∉ X.fs ∧ ∀ v, p.2.data ≠ .cell v
  hok : HOk X.prog X.w H s.heap
  len : σ.length = X.N.length

section
variable {X : Cx} {pins : List (Addr × Obj)} {σ : List (Option V)} {H H' : Hp} {s : Shared} {h' : Heap}

theorem Cx.Ok.nofr (ok : X.Ok) {b : Addr} {o : Obj} (e : X.base.get? b = some o) : b ∉ X.fs := fun hb => by
  have := (ok.funs.mem hb).1
  rw [e] at this; cases this
theorem Inv.bs (I : Inv X pins σ H s) : ∀ b o, X.base.get? b = some o → s.heap.get? b = some o ∧ H b = none := fun b o e =>
  ⟨I.base.keep b o (I.ok.bs b o e).1 (I.ok.bs b o e).2 (I.ok.nofr e) (I.ok.noex b o e), I.base.free b o (I.ok.bs b o e).1 (I.ok.bs b o e).2 (I.ok.noex b o e)⟩
theorem Inv.bk (I : Inv X pins σ H s) : ∀ b o, X.base.get? b = some o → s.heap.get? b = some o := fun b o e => (I.bs b o e).1
theorem Inv.mod (I : Inv X pins σ H s) : Mod X.K X.mg X.base := I.ok.mod
theorem Inv.kIn (I : Inv X pins σ H s) : X.K.In s.heap := I.ok.mod.kin.keeps I.bk
theorem Inv.nolimit (I : Inv X pins σ H s) : s.heap.NoLimit := I.ok.mod.nolimit.keeps I.bk
/-- the frame over the base: for OpenK's rules (K.In X.base is I.mod.kin) -/
theorem Inv.fr (I : Inv X pins σ H s) : ∃ m, Fr X.base X.env.locals s.heap m :=
  let ⟨m, hn, _⟩ := I.loc
  ⟨m, hn, I.bk, Nat.le_trans I.ok.bsz I.ok.above⟩
theorem Inv.lt (I : Inv X pins σ H s) : X.env.locals < s.heap.objs.size := let ⟨_, hn, _⟩ := I.loc; hn.lt
theorem Inv.sz (I : Inv X pins σ H s) : X.s₀.heap.objs.size ≤ s.heap.objs.size := Nat.le_trans I.ok.above (Nat.le_of_lt I.lt)
theorem Inv.nofs (I : Inv X pins σ H s) {a : Addr} (h : s.heap.objs.size ≤ a) : a ∉ X.fs := fun hb => by
  obtain ⟨_, o, ho, _⟩ := I.ok.funs.mem hb
  exact absurd (Nat.lt_of_lt_of_le (Heap.lt_size ho) (Nat.le_trans I.sz h)) (Nat.lt_irrefl _)
theorem Inv.cne (I : Inv X pins σ H s) : ∀ x c, X.env.cells.lookup x = some c → c ≠ X.env.locals := fun x c e z => by
  obtain ⟨v, o, ho, hd⟩ := I.cell x c e
  obtain ⟨m, ⟨o', es, ep, ho', hd', _⟩, _⟩ := I.loc
  rw [z, ho'] at ho; cases ho; rw [hd'] at hd; cases hd
theorem Inv.funs (I : Inv X pins σ H s) : s.heap.FunFrames X.base X.outer := by
  have all : ∀ (l : List Env), (∀ b ∈ frs l, b ∈ X.fs) → X.s₀.heap.FunFrames X.base l → s.heap.FunFrames X.base l := by
    intro l
    induction l with
    | nil => intro _ _; trivial
    | cons env r ih =>
      intro hs hl
      obtain ⟨hk, ⟨L, o, hf, hn, ho, hd⟩, hr⟩ := hl
      have hL : L ∈ X.fs := hs L (by unfold frs; rw [List.filterMap_cons, hf]; exact List.mem_cons_self)
      obtain ⟨sl, e⟩ := I.base.slot L o ho (I.ok.frf L hL) hL fun z => I.ok.exfs L z hL
      exact ⟨hk, ⟨L, _, hf, hn, e, hd⟩, ih (fun b hb => hs b (by unfold frs; rw [List.filterMap_cons, hf]; exact List.mem_cons_of_mem _ hb)) hr⟩
  exact all X.outer (fun _ hb => hb) I.ok.funs

/-- the frames that run, for a call -/
theorem Inv.stack (I : Inv X pins σ H s) : s.heap.FunFrames X.base X.stack := by
  rcases I.ok.stk with e | ⟨e, hf⟩
  · rw [e]; exact I.funs
  · rw [e]
    obtain ⟨m, hn, _⟩ := I.loc
    refine .cons (by rw [I.ok.kind]; decide) hf hn ?_ I.funs
    exact Heap.get?_none_of_le (Nat.le_trans I.ok.bsz I.ok.above)
theorem Inv.stkSub (I : Inv X pins σ H s) : ∀ b ∈ frs X.stack, b ∈ X.env.locals :: X.fs := fun b hb => by
  rcases I.ok.stk with e | ⟨e, hf⟩
  · rw [e] at hb; exact List.mem_cons_of_mem _ hb
  · rw [e] at hb
    unfold frs at hb
    rw [List.filterMap_cons, hf] at hb
    exact hb
theorem Inv.stkFree (I : Inv X pins σ H s) : ∀ b ∈ frs X.stack, H b = none := fun b hb => by
  rcases List.mem_cons.mp (I.stkSub b hb) with e | hb
  · rw [e]; exact I.free
  · obtain ⟨_, o, ho, _⟩ := I.ok.funs.mem hb
    exact I.base.free b o ho (I.ok.frf b hb) fun z => I.ok.exfs b z hb

/-- THE STEP: the untracked objects but the frame and the records at ch are kept (the callers' frames up to slots), the frame's map is kept, the new abstract heap is held -/
theorem Inv.step {g' : Array GenState} {t' : Nat} {d' : Drawn} {ch : List Addr} (I : Inv X pins σ H s)
    (hch : ∀ b ∈ ch, (b ∈ X.ex ∨ X.s₀.heap.objs.size ≤ b) ∧ b ≠ X.env.locals ∧ (∀ x c, X.env.cells.lookup x = some c → c ≠ b) ∧ ∀ p ∈ X.pn ++ pins, p.1 ≠ b)
    (keep : ∀ b o, b ≠ X.env.locals → b ∉ X.fs → b ∉ ch → s.heap.get? b = some o → H b = none → h'.get? b = some o)
    (slot : ∀ b o, b ≠ X.env.locals → b ∈ X.fs → b ∉ ch → s.heap.get? b = some o → H b = none → ∃ sl, h'.get? b = some { o with slots := sl }) (free : ∀ b o, b ∉ ch → s.heap.get? b = some o → H b = none → H' b = none)
    (there : ∀ b o, b ∉ ch → s.heap.get? b = some o → ∃ o', h'.get? b = some o')
    (tups : ∀ b xs, H b = some (.tup xs) → H' b = some (.tup xs)) (frzs : ∀ b o u, H b = some (.frz o u) → H' b = some (.frz o u)) (tbls : ∀ b ps, H b = some (.tbl ps) → ∃ more, H' b = some (.tbl (ps ++ more)))
    (ns : ∀ m, s.heap.Ns X.env.locals m → h'.Ns X.env.locals m) (hok : HOk X.prog X.w H' h') (hg : AllBare g') :
    Inv X pins σ H' { s with heap := h', gens := g', drawn := d', toks := t' } := by
  have neL : ∀ b o, X.s₀.heap.get? b = some o → b ≠ X.env.locals := fun b o e => Nat.ne_of_lt (Nat.lt_of_lt_of_le (Heap.lt_size e) I.ok.above)
  have neC : ∀ b o, X.s₀.heap.get? b = some o → b ∉ X.ex → b ∉ ch := fun b o e hx hb => by
    rcases (hch b hb).1 with z | z
    · exact hx z
    · exact absurd (Nat.lt_of_lt_of_le (Heap.lt_size e) z) (Nat.lt_irrefl _)
  have cellK : ∀ x c, X.env.cells.lookup x = some c → ∀ v, s.heap.IsCell c v → h'.IsCell c v := fun x c e v ⟨o, ho, hd⟩ => by
    have nch : c ∉ ch := fun z => (hch c z).2.2.1 x c e rfl
    by_cases hc : c ∈ X.fs
    · obtain ⟨sl, q⟩ := slot c o (I.cne x c e) hc nch ho (I.freeC x c e)
      exact ⟨_, q, hd⟩
    · exact ⟨o, keep c o (I.cne x c e) hc nch ho (I.freeC x c e), hd⟩
  refine ⟨I.ok, I.os, hg, ⟨fun b o e n hb hx => ?_, fun b o e n hb hx => ?_, fun b o e n hx => ?_, fun b o e hx => ?_, fun b xs e => tups b xs (I.base.tups b xs e), fun b o xs e => frzs b o xs (I.base.frzs b o xs e), fun b ps e => ?_⟩, ?_, fun x c e => ?_, ?_, fun x c e => ?_, fun p hp => ?_, hok, I.len⟩
  · exact keep b o (neL b o e) hb (neC b o e hx) (I.base.keep b o e n hb hx) (I.base.free b o e n hx)
  · obtain ⟨sl, e1⟩ := I.base.slot b o e n hb hx
    obtain ⟨sl', e2⟩ := slot b _ (neL b o e) hb (neC b o e hx) e1 (I.base.free b o e n hx)
    exact ⟨sl', e2⟩
  · obtain ⟨o', e1⟩ := I.base.there b o e hx
    exact free b o' (neC b o e hx) e1 (I.base.free b o e n hx)
  · obtain ⟨o', e1⟩ := I.base.there b o e hx
    exact there b o' (neC b o e hx) e1
  · obtain ⟨m1, e1⟩ := I.base.tbls b ps e
    obtain ⟨m2, e2⟩ := tbls b _ e1
    exact ⟨m1 ++ m2, by rw [e2, Array.append_assoc]⟩
  · obtain ⟨m, hn, hl⟩ := I.loc
    refine ⟨m, ns m hn, fun i x v e1 e2 e3 => ?_⟩
    obtain ⟨u, r, l⟩ := hl i x v e1 e2 e3
    refine ⟨u, r, ?_⟩
    rcases l with l | ⟨k, c, e, z⟩
    · exact .inl l
    · exact .inr ⟨k, c, e, cellK x c e _ z⟩
  · obtain ⟨v, z⟩ := I.cell x c e
    exact ⟨v, cellK x c e v z⟩
  · obtain ⟨m, ⟨o, _, _, ho, _⟩, _⟩ := I.loc
    exact free _ o (fun z => (hch _ z).2.1 rfl) ho I.free
  · obtain ⟨v, o, ho, hd⟩ := I.cell x c e
    exact free c o (fun z => (hch c z).2.2.1 x c e rfl) ho (I.freeC x c e)
  · obtain ⟨e, n, ne, nf, d⟩ := I.pin p hp
    have nch : p.1 ∉ ch := fun z => (hch p.1 z).2.2.2 p hp rfl
    exact ⟨keep p.1 p.2 ne nf nch e n, free p.1 p.2 nch e n, ne, nf, d⟩
/-- .. where the frame's own object is kept too -/
theorem Inv.un {t' : Nat} (I : Inv X pins σ H s) (u : Un X.fs [] H H' s.heap h') (hok : HOk X.prog X.w H' h') : Inv X pins σ H' { s with heap := h', toks := t' } := by
  obtain ⟨m, ⟨o, es, ep, ho, r⟩, _⟩ := id I.loc
  obtain ⟨sl, hL⟩ := u.any ho I.free (by simp)
  exact I.step (g' := s.gens) (d' := s.drawn) (ch := []) (fun _ z => nomatch z) (fun b o _ hb _ e n => u.keep b o e n hb (by simp)) (fun b o _ hb _ e n => u.slot b o e n hb (by simp)) (fun b o _ e n => u.free b o e n (by simp)) (fun b o _ e => u.there b o e (by simp)) u.tups u.frzs u.tbls (fun m' hm => by
    obtain ⟨o', es', ep', ho', r'⟩ := hm
    rw [ho] at ho'; cases ho'
    exact ⟨_, es', ep', hL, r'⟩) hok I.bare
/-- behind a call (or a comprehension's block): the slots of this frame may have changed too, the records at ch may have turned -/
theorem Inv.call {g' : Array GenState} {t' : Nat} {d' : Drawn} {ch : List Addr} (I : Inv X pins σ H s) (u : Un (frs X.stack) ch H H' s.heap h') (hok : HOk X.prog X.w H' h') (hg : AllBare g')
    (hch : ∀ b ∈ ch, (b ∈ X.ex ∨ X.s₀.heap.objs.size ≤ b) ∧ b ≠ X.env.locals ∧ (∀ x c, X.env.cells.lookup x = some c → c ≠ b) ∧ ∀ p ∈ X.pn ++ pins, p.1 ≠ b) :
    Inv X pins σ H' { s with heap := h', gens := g', drawn := d', toks := t' } := by
  obtain ⟨m, ⟨o, es, ep, ho, r⟩, _⟩ := id I.loc
  obtain ⟨sl, hL⟩ := u.any ho I.free fun z => (hch _ z).2.1 rfl
  exact I.step (ch := ch) hch (fun b o hL hb hc e n => u.keep b o e n (fun z => (List.mem_cons.mp (I.stkSub b z)).elim hL hb) hc) (fun b o _ _ hc e n => u.any e n hc) (fun b o hc e n => u.free b o e n hc) (fun b o hc e => u.there b o e hc) u.tups u.frzs u.tbls (fun m' hm => by
    obtain ⟨o', es', ep', ho', r'⟩ := hm
    rw [ho] at ho'; cases ho'
    exact ⟨_, es', ep', hL, r'⟩) hok hg
/-- an untracked record of ours (an iterator) has turned -/
theorem Inv.turned {t' : Nat} {it : Addr} (I : Inv X pins σ H s) (k : ∀ b o, b ≠ it → s.heap.get? b = some o → h'.get? b = some o) (hn : H it = none) (hL : it ≠ X.env.locals)
    (h1 : it ∈ X.ex ∨ X.s₀.heap.objs.size ≤ it) (h2 : ∀ x c, X.env.cells.lookup x = some c → c ≠ it) (h3 : ∀ p ∈ X.pn ++ pins, p.1 ≠ it) : Inv X pins σ H { s with heap := h', toks := t' } := by
  have nit : ∀ b u, H b = some u → b ≠ it := fun b u e z => by rw [z, hn] at e; cases e
  refine I.step (g' := s.gens) (d' := s.drawn) (ch := [it]) (fun b hb => ?_) (fun b o _ _ hc e _ => k b o (fun z => hc (by simp [z])) e) (fun b o _ _ hc e _ => ⟨o.slots, k b o (fun z => hc (by simp [z])) e⟩) (fun _ _ _ _ n => n)
    (fun b o hc e => ⟨o, k b o (fun z => hc (by simp [z])) e⟩) (fun _ _ e => e) (fun _ _ _ e => e) (fun b ps e => ⟨#[], by rw [e]; simp⟩) (fun m hm => ?_) (fun b u e => ?_) I.bare
  · have e : b = it := by simpa using hb
    subst e
    exact ⟨h1, hL, h2, h3⟩
  · obtain ⟨o, es, ep, ho, r⟩ := hm
    exact ⟨o, es, ep, k _ o (Ne.symm hL) ho, r⟩
  · refine (I.hok b u e).stay (fun c v hc q => k c v ?_ q) (fun _ q => q) fun _ _ q => q
    rcases hc with z | z
    · rw [z]; exact nit b u e
    · exact nit c _ z
theorem Inv.tok (I : Inv X pins σ H s) (t : Nat) : Inv X pins σ H { s with toks := t } := I.un (h' := s.heap) (t' := t) Un.refl I.hok
/-- all objects kept -/
theorem Inv.kept {t' : Nat} (I : Inv X pins σ H s) (k : ∀ b u, s.heap.get? b = some u → h'.get? b = some u) : Inv X pins σ H { s with heap := h', toks := t' } := I.un (Un.kept k) (I.hok.kept k)
/-- a new object laid and tracked -/
theorem Inv.laid {a : Addr} {o : HO} {t' : Nat} (I : Inv X pins σ H s) (k : ∀ b u, s.heap.get? b = some u → h'.get? b = some u) (hp : s.heap.objs.size ≤ a) (new : ObjOk X.prog X.w (upd H a o) h' a o) :
    Inv X pins σ (upd H a o) { s with heap := h', toks := t' } := I.un (Un.laid k hp (I.hok.fresh hp)) (I.hok.laid k hp new)
/-- an object written -/
theorem Inv.write {x e : Addr} {o : HO} {t' : Nat} (I : Inv X pins σ H s) (mu : Mut (H x)) (he : e = x ∨ H e = some (.own x)) (k : ∀ b u, b ≠ e → s.heap.get? b = some u → h'.get? b = some u) (heo : ∃ u, h'.get? e = some u)
    (new : ObjOk X.prog X.w (upd H x o) h' x o) : Inv X pins σ (upd H x o) { s with heap := h', toks := t' } := I.un (Un.write mu he k heo) (I.hok.write mu he k heo new)
theorem Inv.pins_of {pins' : List (Addr × Obj)} (I : Inv X pins σ H s) (h : ∀ p ∈ pins', s.heap.get? p.1 = some p.2 ∧ H p.1 = none ∧ p.1 ≠ X.env.locals ∧ p.1 ∉ X.fs ∧ ∀ v, p.2.data ≠ .cell v) : Inv X pins' σ H s :=
  ⟨I.ok, I.os, I.bare, I.base, I.loc, I.cell, I.free, I.freeC, fun p hp => (List.mem_append.mp hp).elim (fun z => I.pin p (List.mem_append_left _ z)) (h p), I.hok, I.len⟩

theorem nodup_ix {N : List Str} (hN : N.Nodup) {i j : Nat} {x : Str} (a : N[i]? = some x) (b : N[j]? = some x) : i = j := by
  obtain ⟨h1, e1⟩ := List.getElem?_eq_some_iff.mp a
  obtain ⟨h2, e2⟩ := List.getElem?_eq_some_iff.mp b
  exact (List.getElem_inj hN).mp (e1.trans e2.symm)

/-- a name is stored; what changed -/
theorem store_ok2 {M : Model} {A : Around} {E : Value → Shared → Prop} {i : Nat} {x : Str} {v : V} {u : Value} {Q : Unit → Shared → Prop} (I : Inv X pins σ H s) (hN : X.N.Nodup) (hi : X.N[i]? = some x) (hx : Loc X.env.scope x) (r : RelV v u)
    (h : ∀ s', Inv X pins (σ.set i (some v)) H s' → (∃ a, Heap.SameBut a s.heap s'.heap ∧ (a = X.env.locals ∨ X.env.cells.lookup x = some a)) → Q () s') (hf : X.fn x = true ∨ X.env.scope.names.lookup x = some .local := by first | exact .inl rfl | exact .inr rfl | assumption) : wpAny M A (storeName X.env x u) Q E s := by
  obtain ⟨m, hn, hl⟩ := id I.loc
  have hcls : (X.env.scope.kind == .class || (X.env.scope.kind == .module && X.env.locals != X.env.globals)) = false := by rw [I.ok.kind]; rfl
  have hiσ : i < σ.length := by rw [I.len]; exact (List.getElem?_eq_some_iff.mp hi).1
  have cne := I.cne
  have tracked : ∀ {a : Addr} {h' : Heap}, (∃ o, s.heap.get? a = some o ∧ H a = none) → Heap.SameBut a s.heap h' → HOk X.prog X.w H h' := fun {a h'} ha hs b ob e => by
    obtain ⟨_, _, hfree⟩ := ha
    refine (I.hok b ob e).stay (fun c w' hc q => (hs.2 c ?_).trans q) (fun _ q => q) fun _ _ q => q
    rintro rfl
    rcases hc with rfl | hc
    · rw [hfree] at e; cases e
    · rw [hfree] at hc; cases hc
  rcases hx with hk | hk
  · refine wpAny_storeName_local hk hn (fun h' hn' hs => ?_) hcls
    obtain ⟨oL, _, _, hoL, _⟩ := id hn
    refine h _ ⟨I.ok, I.os, I.bare, ⟨fun b o e n hb hx => ?_, fun b o e n hb hx => ?_, I.base.free, fun b o e hx => ?_, I.base.tups, I.base.frzs, I.base.tbls⟩, ⟨_, hn', fun j y v' e1 e2 e3 => ?_⟩, fun y c e => ?_, I.free, I.freeC, fun p hp => ?_, tracked ⟨oL, hoL, I.free⟩ hs, by simpa using I.len⟩ ⟨_, hs, .inl rfl⟩
    · exact (hs.2 b (Nat.ne_of_lt (Nat.lt_of_lt_of_le (Heap.lt_size e) I.ok.above))).trans (I.base.keep b o e n hb hx)
    · obtain ⟨sl, e1⟩ := I.base.slot b o e n hb hx
      exact ⟨sl, (hs.2 b (Nat.ne_of_lt (Nat.lt_of_lt_of_le (Heap.lt_size e) I.ok.above))).trans e1⟩
    · obtain ⟨o', e1⟩ := I.base.there b o e hx
      exact ⟨o', (hs.2 b (Nat.ne_of_lt (Nat.lt_of_lt_of_le (Heap.lt_size e) I.ok.above))).trans e1⟩
    · by_cases hj : j = i
      · subst hj
        rw [hi] at e1; cases e1
        rw [List.getElem?_set_self hiσ] at e2
        cases e2
        exact ⟨u, r, .inl ⟨hk, by simp⟩⟩
      · rw [List.getElem?_set_ne (Ne.symm hj)] at e2
        obtain ⟨u', r', q⟩ := hl j y v' e1 e2 e3
        refine ⟨u', r', ?_⟩
        rcases q with ⟨k, e⟩ | ⟨k, c, e, z⟩
        · refine .inl ⟨k, ?_⟩
          have : y ≠ x := fun e => hj (nodup_ix hN e1 (e ▸ hi))
          simp [this, e]
        · exact .inr ⟨k, c, e, z.sameBut hs (cne y c e)⟩
    · obtain ⟨w', z⟩ := I.cell y c e
      exact ⟨w', z.sameBut hs (cne y c e)⟩
    · obtain ⟨e, n, ne, nf, d⟩ := I.pin p hp
      exact ⟨(hs.2 p.1 ne).trans e, n, ne, nf, d⟩
  · have hfn : X.fn x = true := by
      rcases hf with z | z
      · exact z
      · rw [z] at hk; cases hk
    obtain ⟨c, hc⟩ := I.ok.has x (.inl hk)
    obtain ⟨w', z⟩ := I.cell x c hc
    refine wpAny_storeName_cell I.ok.kind hk hc z (fun h' hc' hs => ?_)
    obtain ⟨oc, hoc, hocd⟩ := id z
    refine h { s with heap := h' } ⟨I.ok, I.os, I.bare, ⟨fun b o e n hb hx => ?_, fun b o e n hb hx => ?_, I.base.free, fun b o e hx => ?_, I.base.tups, I.base.frzs, I.base.tbls⟩, ⟨m, hn.sameBut hs (Ne.symm (cne x c hc)), fun j y v' e1 e2 e3 => ?_⟩, fun y c' e => ?_, I.free, I.freeC, fun p hp => ?_, tracked ⟨oc, hoc, I.freeC x c hc⟩ hs, by simpa using I.len⟩ ⟨c, hs, .inr hc⟩
    · exact (hs.2 b (Nat.ne_of_lt (Nat.lt_of_lt_of_le (Heap.lt_size e) (I.ok.cab x c hfn hc)))).trans (I.base.keep b o e n hb hx)
    · obtain ⟨sl, e1⟩ := I.base.slot b o e n hb hx
      exact ⟨sl, (hs.2 b (Nat.ne_of_lt (Nat.lt_of_lt_of_le (Heap.lt_size e) (I.ok.cab x c hfn hc)))).trans e1⟩
    · obtain ⟨o', e1⟩ := I.base.there b o e hx
      exact ⟨o', (hs.2 b (Nat.ne_of_lt (Nat.lt_of_lt_of_le (Heap.lt_size e) (I.ok.cab x c hfn hc)))).trans e1⟩
    · by_cases hj : j = i
      · subst hj
        rw [hi] at e1; cases e1
        rw [List.getElem?_set_self hiσ] at e2
        cases e2
        exact ⟨u, r, .inr ⟨.inl hk, c, hc, hc'⟩⟩
      · rw [List.getElem?_set_ne (Ne.symm hj)] at e2
        obtain ⟨u', r', q⟩ := hl j y v' e1 e2 e3
        refine ⟨u', r', ?_⟩
        rcases q with q | ⟨k, c', e, z'⟩
        · exact .inl q
        · refine .inr ⟨k, c', e, z'.sameBut hs ?_⟩
          rintro rfl
          exact hj (nodup_ix hN e1 (I.ok.inj _ _ _ e hc ▸ hi))
    · by_cases hcc : c' = c
      · subst hcc; exact ⟨_, hc'⟩
      · obtain ⟨w2, z2⟩ := I.cell y c' e
        exact ⟨w2, z2.sameBut hs hcc⟩
    · obtain ⟨e, n, ne, nf, d⟩ := I.pin p hp
      refine ⟨(hs.2 p.1 ?_).trans e, n, ne, nf, d⟩
      intro q
      rw [q, hoc] at e
      have q' : oc = p.2 := Option.some.inj e
      exact d w' (by rw [← q']; exact hocd)
theorem store_ok {M : Model} {A : Around} {E : Value → Shared → Prop} {i : Nat} {x : Str} {v : V} {u : Value} {Q : Unit → Shared → Prop} (I : Inv X pins σ H s) (hN : X.N.Nodup) (hi : X.N[i]? = some x) (hx : Loc X.env.scope x) (r : RelV v u)
    (h : ∀ s', Inv X pins (σ.set i (some v)) H s' → Q () s') (hf : X.fn x = true ∨ X.env.scope.names.lookup x = some .local := by first | exact .inl rfl | exact .inr rfl | assumption) : wpAny M A (storeName X.env x u) Q E s :=
  store_ok2 I hN hi hx r (fun s' I' _ => h s' I') hf
/-- behind a call or a block, the state as it is -/
theorem Inv.call' {s' : Shared} {ch : List Addr} (I : Inv X pins σ H s) (ho : s'.os = s.os) (u : Un (frs X.stack) ch H H' s.heap s'.heap) (hok : HOk X.prog X.w H' s'.heap) (hg : AllBare s'.gens)
    (hch : ∀ b ∈ ch, (b ∈ X.ex ∨ X.s₀.heap.objs.size ≤ b) ∧ b ≠ X.env.locals ∧ (∀ x c, X.env.cells.lookup x = some c → c ≠ b) ∧ ∀ p ∈ X.pn ++ pins, p.1 ≠ b) : Inv X pins σ H' s' := by
  obtain ⟨h', g', d', t', o'⟩ := s'
  have e : o' = s.os := ho
  subst e
  exact I.call (g' := g') (t' := t') (d' := d') u hok hg hch
end

/-! ### the judgements -/
/-- an exception: its class, its own dict's address (where it has one), the abstract heap behind it -/
noncomputable abbrev XK := Value → Option Addr → Hp → Prop
noncomputable abbrev St := List (Option V)
noncomputable abbrev VK := V → Hp → Prop
/-- an expression's reading; a test's; an argument list's -/
noncomputable abbrev TE := St → Hp → VK → Prop
noncomputable abbrev TT := St → Hp → (Bool → Hp → Prop) → Prop
noncomputable abbrev TA := St → Hp → (List V → Hp → Prop) → Prop
/-- what is wanted behind a statement -/
structure Ends where
  nx : St → Hp → Prop
  rt : VK
  bk : St → Hp → Prop := fun _ _ => False
  ct : St → Hp → Prop := fun _ _ => False
noncomputable abbrev TS := Ends → St → Hp → Prop

noncomputable def EP (X : Cx) (pins : List (Addr × Obj)) (σ : St) (Q : VK) (u : Value) (s' : Shared) : Prop := ∃ v H', Inv X pins σ H' s' ∧ RelV v u ∧ Q v H'
noncomputable def TP (X : Cx) (pins : List (Addr × Obj)) (σ : St) (Q : Bool → Hp → Prop) (b : Bool) (s' : Shared) : Prop := ∃ H', Inv X pins σ H' s' ∧ Q b H'
noncomputable def AP (X : Cx) (pins : List (Addr × Obj)) (σ : St) (Q : List V → Hp → Prop) (us : List Value) (s' : Shared) : Prop := ∃ vs H', Inv X pins σ H' s' ∧ Vals vs us ∧ Q vs H'
noncomputable def SP (X : Cx) (pins : List (Addr × Obj)) (D : Ends) (f : Flow) (s' : Shared) : Prop :=
  match f with
  | .next => ∃ σ' H', Inv X pins σ' H' s' ∧ D.nx σ' H'
  | .brk => ∃ σ' H', Inv X pins σ' H' s' ∧ D.bk σ' H'
  | .cont => ∃ σ' H', Inv X pins σ' H' s' ∧ D.ct σ' H'
  | .ret u => ∃ v σ' H', Inv X pins σ' H' s' ∧ RelV v u ∧ D.rt v H'

noncomputable def PE (X : Cx) (e : Expr) (t : TE) : Prop :=
  ∀ (pins : List (Addr × Obj)) (s : Shared) (σ : St) (H : Hp) (Q : VK), Inv X pins σ H s → t σ H Q → wpAny (model X.prog X.w) X.A (eval e X.env) (EP X pins σ Q) X.xe s
noncomputable def PT (X : Cx) (e : Expr) (t : TT) : Prop :=
  ∀ (pins : List (Addr × Obj)) (s : Shared) (σ : St) (H : Hp) (Q : Bool → Hp → Prop), Inv X pins σ H s → t σ H Q → wpAny (model X.prog X.w) X.A (isTrue e X.env (eval e X.env)) (TP X pins σ Q) X.xe s
/-- a test whatever its 'whole' is (and, or) -/
noncomputable def PW (X : Cx) (e : Expr) (t : TT) : Prop :=
  ∀ (whole : Sem Value) (pins : List (Addr × Obj)) (s : Shared) (σ : St) (H : Hp) (Q : Bool → Hp → Prop), Inv X pins σ H s → t σ H Q → wpAny (model X.prog X.w) X.A (isTrue e X.env whole) (TP X pins σ Q) X.xe s
theorem PW.pt {X : Cx} {e : Expr} {t : TT} (h : PW X e t) : PT X e t := h _
/-- an argument list (no star), from the left -/
noncomputable def PA (X : Cx) (es : List Expr) (t : TA) : Prop :=
  ∀ (pos : Pos) (pins : List (Addr × Obj)) (s : Shared) (σ : St) (H : Hp) (Q : List V → Hp → Prop), Inv X pins σ H s → t σ H Q → wpAny (model X.prog X.w) X.A (spliced (backTo pos (starEach es X.env))) (AP X pins σ Q) X.xe s
noncomputable def PS (X : Cx) (st : Stmt) (t : TS) : Prop :=
  ∀ (pins : List (Addr × Obj)) (s : Shared) (σ : St) (H : Hp) (D : Ends), Inv X pins σ H s → t D σ H → wpAny (model X.prog X.w) X.A (exec st X.env) (SP X pins D) X.xe s
noncomputable def PSs (X : Cx) (st : List Stmt) (t : TS) : Prop :=
  ∀ (pins : List (Addr × Obj)) (s : Shared) (σ : St) (H : Hp) (D : Ends), Inv X pins σ H s → t D σ H → wpAny (model X.prog X.w) X.A (execs st X.env) (SP X pins D) X.xe s
/-- weaken the end -/
theorem thn {α : Type} {t : Sem α} {Q Q' : α → Shared → Prop} {M : Model} {A : Around} {E : Value → Shared → Prop} {s : Shared} (h : wpAny M A t Q E s) (hQ : ∀ a s, Q a s → Q' a s) : wpAny M A t Q' E s := wpAny_mono h hQ fun _ _ x => x
end L2

namespace L2
open PySem PySem.Spec PyProof.Rows
section
variable {X : Cx}


/-! ### names and constants -/
noncomputable def tVar (i : Nat) : TE := fun σ H Q => ∃ v, σ[i]? = some (some v) ∧ Q v H
noncomputable def tC (v : V) : TE := fun _ H Q => Q v H
theorem pe_var {i : Nat} {x : Str} {pos : Pos} (hN : X.N[i]? = some x) (hv : Vis X.env.scope x) (hd : (x == ("__debug__" : Str)) = false := by decide) (hcd : (x == ("__classdict__" : Str)) = false := by decide) : PE X (.Name x pos) (tVar i) := by
  intro pins s σ H Q I h
  obtain ⟨v, e, h⟩ := h
  obtain ⟨m, hn, hl⟩ := I.loc
  obtain ⟨u, r, l⟩ := hl i x v hN e hv
  have fin : EP X pins σ Q u s := ⟨v, H, I, r, h⟩
  rcases l with ⟨hk, hm⟩ | ⟨hk, c, hc, hcell⟩
  · exact wpAny_Name (wpAny_loadName_local I.ok.kind hk hn hm fin) hd
  · rcases hk with hk | hk
    · exact wpAny_Name (wpAny_loadName_cell I.ok.kind hk hc hcell fin) hd
    · exact wpAny_Name (wpAny_loadName_free I.ok.kind hk hc hcell fin hcd) hd
theorem pe_int {i j pos} : PE X (.Constant (.int i) j pos) (tC (.int i)) := fun _ _ _ H _ I h => wpAny_Constant_int ⟨.int i, H, I.tok _, ⟨_, rfl⟩, h⟩
theorem pe_bl {b j pos} : PE X (.Constant (.bool b) j pos) (tC (.bl b)) := fun _ _ _ H _ I h => Constant_bool ⟨.bl b, H, I, rfl, h⟩
theorem pe_non {j pos} : PE X (.Constant .none j pos) (tC .non) := fun _ _ _ H _ I h => Constant_none ⟨.non, H, I, rfl, h⟩
theorem pe_str {x j pos} : PE X (.Constant (.str x) j pos) (tC (.str x)) := fun _ _ _ H _ I h => Calls.Constant_str ⟨.str x, H, I.tok _, ⟨_, rfl⟩, h⟩

/-- a global name of the def -/
noncomputable def Gl (X : Cx) (x : Str) : Prop := X.env.kindOf x = some .globalImplicit
theorem ld_glob {E : Value → Shared → Prop} {pins : List (Addr × Obj)} {s : Shared} {σ : St} {H : Hp} {x : Str} {u : Value} {pos : Pos} {Q : Value → Shared → Prop} (I : Inv X pins σ H s) (hg : Gl X x) (hm : X.mg x = some u) (h : Q u s)
    (hd : (x == ("__debug__" : Str)) = false := by decide) : wpAny (model X.prog X.w) X.A (eval (.Name x pos) X.env) Q E s :=
  Calls.Name_function_global I.ok.kind hg (Calls.loadGlobal_global (by rw [I.ok.glob]; exact I.mod.glob.keeps I.bk) hm h) hd
theorem ld_blt {E : Value → Shared → Prop} {pins : List (Addr × Obj)} {s : Shared} {σ : St} {H : Hp} {x : Str} {u : Value} {pos : Pos} {Q : Value → Shared → Prop} (I : Inv X pins σ H s) (hg : Gl X x) (hm : X.mg x = none) (hv : bootBuiltins x = some u) (h : Q u s)
    (hn : x ≠ "__name__" := by decide) (hd : (x == ("__debug__" : Str)) = false := by decide) : wpAny (model X.prog X.w) X.A (eval (.Name x pos) X.env) Q E s := by
  obtain ⟨mb, h1, h2⟩ := I.mod.blt
  exact Calls.Name_function_global I.ok.kind hg (Calls.loadGlobal_builtin (by rw [I.ok.glob]; exact I.mod.glob.keeps I.bk) hm (by rw [I.ok.blt]; exact h1.keeps I.bk) ((h2 x hn).trans hv) h) hd
theorem pe_bltn {x : Str} {v : V} {u : Value} {pos : Pos} (hg : Gl X x) (hm : X.mg x = none) (hv : bootBuiltins x = some u) (r : RelV v u) (hn : x ≠ "__name__" := by decide) (hd : (x == ("__debug__" : Str)) = false := by decide) : PE X (.Name x pos) (tC v) :=
  fun _ _ _ H _ I h => ld_blt I hg hm hv ⟨v, H, I, r, h⟩ hn hd

/-! ### arithmetic -/
variable {a b : Expr} {ta tb : TE} {pos : Pos}

/-! ### comparisons -/
/-- a comparison as a value, as a test -/
noncomputable def tB (t : TE) : TT := fun σ H Q => t σ H fun x H1 => ∃ c, x = .bl c ∧ Q c H1
/-- an expression whose value is a bool, as a test -/
theorem pt_val {e : Expr} {t : TE} (h : PE X e t) (he : ∀ whole, isTrue e X.env whole = (do let v ← whole; standAt e.pos; holding [v] (truthy v)) := by intro _; rfl) : PT X e (tB t) := by
  intro pins s σ H Q I hw
  (refine isTrue_plain (thn (h pins s σ H _ I hw) ?_) (he _); rintro v s1 ⟨x, H1, I1, r1, q1⟩)
  obtain ⟨d, rfl, q⟩ := q1
  cases r1
  exact wpAny_truthy_bool ⟨H1, I1, q⟩

/-! ### and, or, not -/
variable {tA tB' : TT} {rest : List Expr}
noncomputable def tAnd (t u : TT) : TT := fun σ H Q => t σ H fun c H1 => if c = true then u σ H1 Q else Q false H1
noncomputable def tOr (t u : TT) : TT := fun σ H Q => t σ H fun c H1 => if c = true then Q true H1 else u σ H1 Q
noncomputable def tNot (t : TT) : TT := fun σ H Q => t σ H fun c H1 => Q (!c) H1
theorem pw_and1 (ha : PT X a tA) : PW X (.BoolOp .And [a] pos) tA := by
  intro wh pins s σ H Q I h
  refine isTrue_and (thn (ha pins s σ H Q I h) fun c s1 e => ?_)
  cases c with
  | true => exact isTrue_and_nil e
  | false => exact e
theorem pw_or1 (ha : PT X a tA) : PW X (.BoolOp .Or [a] pos) tA := by
  intro wh pins s σ H Q I h
  refine isTrue_or (thn (ha pins s σ H Q I h) fun c s1 e => ?_)
  cases c with
  | false => exact isTrue_or_nil e
  | true => exact e
theorem pw_and (ha : PT X a tA) (hb : PW X (.BoolOp .And (b :: rest) pos) tB') : PW X (.BoolOp .And (a :: b :: rest) pos) (tAnd tA tB') := by
  intro wh pins s σ H Q I h
  (refine isTrue_and (thn (ha pins s σ H _ I h) ?_); rintro c s1 ⟨H1, I1, q1⟩)
  cases c with
  | true => exact hb wh pins s1 σ H1 Q I1 q1
  | false => exact ⟨H1, I1, q1⟩
theorem pw_or (ha : PT X a tA) (hb : PW X (.BoolOp .Or (b :: rest) pos) tB') : PW X (.BoolOp .Or (a :: b :: rest) pos) (tOr tA tB') := by
  intro wh pins s σ H Q I h
  (refine isTrue_or (thn (ha pins s σ H _ I h) ?_); rintro c s1 ⟨H1, I1, q1⟩)
  cases c with
  | true => exact ⟨H1, I1, q1⟩
  | false => exact hb wh pins s1 σ H1 Q I1 q1
theorem pt_not (ha : PT X a tA) : PT X (.UnaryOp .Not a pos) (tNot tA) := by
  intro pins s σ H Q I h
  exact isTrue_not (ha pins s σ H (fun c H1 => Q (!c) H1) I h)
/-- .. as values (bools) -/
noncomputable def tAndV (ta tb : TE) : TE := fun σ H Q => ta σ H fun x H1 => ∃ c, x = .bl c ∧ if c = true then tb σ H1 Q else Q (.bl false) H1
noncomputable def tNotV (ta : TE) : TE := fun σ H Q => ta σ H fun x H1 => ∃ c, x = .bl c ∧ Q (.bl (!c)) H1
theorem pe_one {op} {t : TE} (h : PE X a t) : PE X (.BoolOp op [a] pos) t := fun pins s σ H Q I hw => BoolOp_one (h pins s σ H Q I hw)
theorem pe_and (ha : PE X a ta) (hb : PE X (.BoolOp .And (b :: rest) pos) tb) : PE X (.BoolOp .And (a :: b :: rest) pos) (tAndV ta tb) := by
  intro pins s σ H Q I h
  (refine BoolOp_and (thn (ha pins s σ H _ I h) ?_); rintro v s1 ⟨x, H1, I1, r1, q1⟩)
  obtain ⟨c, rfl, q1⟩ := q1
  cases r1
  refine wpAny_truthy_bool ?_
  cases c with
  | true => exact hb pins s1 σ H1 Q I1 q1
  | false => exact ⟨.bl false, H1, I1, rfl, q1⟩
theorem pe_not (ha : PE X a ta) : PE X (.UnaryOp .Not a pos) (tNotV ta) := by
  intro pins s σ H Q I h
  (refine UnaryOp_ (thn (ha pins s σ H _ I h) ?_); rintro v s1 ⟨x, H1, I1, r1, q1⟩)
  obtain ⟨c, rfl, q1⟩ := q1
  cases r1
  exact not_of (wpAny_truthy_bool ⟨.bl (!c), H1, I1, rfl, q1⟩)
/-- a if t else b -/
noncomputable def tIf (t : TT) (ta tb : TE) : TE := fun σ H Q => t σ H fun c H1 => if c = true then ta σ H1 Q else tb σ H1 Q
theorem pe_ifExp {c : Expr} (hc : PT X c tA) (ha : PE X a ta) (hb : PE X b tb) : PE X (.IfExp c a b pos) (tIf tA ta tb) := by
  intro pins s σ H Q I h
  (refine wpAny_IfExp (thn (hc pins s σ H _ I h) ?_); rintro d s1 ⟨H1, I1, q1⟩)
  cases d with
  | true => exact ha pins s1 σ H1 Q I1 q1
  | false => exact hb pins s1 σ H1 Q I1 q1
end
end L2

namespace L2
open PySem PySem.Spec PyProof.Rows

/-! ### a list, a tuple that is read: tracked, frozen, or an object of the module -/
noncomputable def SqL (K : PySem.W.Frag) (H : Hp) (a : Addr) (xs : List V) : Prop :=
  Rd H a (.lst xs) ∨
    ∃ (o : Obj) (its : Array Value) (n : Nat), K.lookup a = some o ∧ o.cls = .type "list" ∧ o.dict = none ∧ o.data = .seq its n ∧ its.size ≤ sizeLine ∧ Vals xs its.toList
noncomputable def SqT (K : PySem.W.Frag) (H : Hp) (a : Addr) (xs : List V) : Prop :=
  Rd H a (.tup xs) ∨
    ∃ (o : Obj) (its : Array Value) (n : Nat), K.lookup a = some o ∧ o.cls = .type "tuple" ∧ o.data = .seq its n ∧ its.size ≤ sizeLine ∧ Vals xs its.toList
noncomputable def absV : Value → Option V
  | .none => some .non
  | .bool b => some (.bl b)
  | .int i _ => some (.int i)
  | .str x _ => some (.str x)
  | .bytes b _ => some (.byt b)
  | .float b _ => some (.flt b)
  | .ref a => some (.ref a)
  | .type n => some (.ty n)
  | _ => none
theorem RelV.abs {x : V} {u : Value} (r : RelV x u) : absV u = some x := by
  cases x with
  | non => cases r; rfl
  | bl _ => cases r; rfl
  | int _ => obtain ⟨t, rfl⟩ := r; rfl
  | str _ => obtain ⟨t, rfl⟩ := r; rfl
  | byt _ => obtain ⟨t, rfl⟩ := r; rfl
  | flt _ => obtain ⟨t, rfl⟩ := r; rfl
  | ref _ => cases r; rfl
  | ty _ => cases r; rfl
theorem RelV.inj {x y : V} {u : Value} (r : RelV x u) (q : RelV y u) : x = y := Option.some.inj (r.abs.symm.trans q.abs)
theorem Vals.inj : ∀ {xs ys : List V} {us : List Value}, Vals xs us → Vals ys us → xs = ys
  | _, _, _, .nil, .nil => rfl
  | _, _, _, .cons r t, .cons r' t' => by rw [r.inj r', Vals.inj t t']
section
variable {X : Cx} {pins : List (Addr × Obj)} {σ : St} {H : Hp} {s : Shared} {a : Addr} {xs ys : List V}
theorem SqL.of {K : PySem.W.Frag} (h : H a = some (.lst xs)) : SqL K H a xs := .inl (.inl h)
theorem SqT.of {K : PySem.W.Frag} (h : H a = some (.tup xs)) : SqT K H a xs := .inl (.inl h)
theorem Inv.list (I : Inv X pins σ H s) (h : SqL X.K H a xs) : ∃ its : List Value, Vals xs its ∧ PlainL s.heap a its.toArray ∧ xs.length ≤ sizeLine := by
  rcases h with h | ⟨o, its, n, hk, hc, hd, hs, hz, r⟩
  · obtain ⟨z, its, n, r, e⟩ := h.ok I.hok
    exact ⟨its, r, ⟨_, n, e, rfl, rfl, rfl⟩, z⟩
  · refine ⟨its.toList, r, ⟨o, n, I.kIn a o hk, hc, hd, by simpa using hs⟩, ?_⟩
    have e := r.length
    simp only [Array.length_toList] at e
    omega
theorem Inv.tuple (I : Inv X pins σ H s) (h : SqT X.K H a xs) : ∃ its : List Value, Vals xs its ∧ IsTup s.heap a its.toArray ∧ xs.length ≤ sizeLine := by
  rcases h with h | ⟨o, its, n, hk, hc, hs, hz, r⟩
  · obtain ⟨z, its, r, p⟩ := h.ok I.hok
    exact ⟨its, r, p, z⟩
  · refine ⟨its.toList, r, ⟨o, I.kIn a o hk, hc, n, by simpa using hs⟩, ?_⟩
    have e := r.length
    simp only [Array.length_toList] at e
    omega
theorem Inv.list_inj (I : Inv X pins σ H s) (h : SqL X.K H a xs) (h' : SqL X.K H a ys) : xs = ys := by
  obtain ⟨its, r, ⟨o, n, e, _, _, d⟩, _⟩ := I.list h
  obtain ⟨its', r', ⟨o', n', e', _, _, d'⟩, _⟩ := I.list h'
  rw [e] at e'; cases e'
  rw [d] at d'
  injection d' with d1 _
  have : its = its' := by simpa using congrArg Array.toList d1
  subst this
  exact r.inj r'
theorem Inv.tuple_inj (I : Inv X pins σ H s) (h : SqT X.K H a xs) (h' : SqT X.K H a ys) : xs = ys := by
  obtain ⟨its, r, ⟨o, e, _, n, d⟩, _⟩ := I.tuple h
  obtain ⟨its', r', ⟨o', e', _, n', d'⟩, _⟩ := I.tuple h'
  rw [e] at e'; cases e'
  rw [d] at d'
  injection d' with d1 _
  have : its = its' := by simpa using congrArg Array.toList d1
  subst this
  exact r.inj r'
end

/-! ### another wish about exceptions -/
noncomputable abbrev Cx.wish (X : Cx) (E : Value → Shared → Prop) : Cx := { X with xe := E }
/-- no exception leaves -/
noncomputable abbrev Cx.nox (X : Cx) : Cx := X.wish fun _ _ => False
theorem Cx.Ok.wish {X : Cx} (ok : X.Ok) (E : Value → Shared → Prop) : (X.wish E).Ok :=
  ⟨ok.mod, ok.kind, ok.glob, ok.blt, ok.above, ok.inj, ok.has, ok.cab, ok.hd, ok.frames, ok.stk, ok.exf, ok.bs, ok.bsz, ok.noex, ok.exfs, ok.funs, ok.frf⟩
theorem Cx.Ok.unwish {X : Cx} {E : Value → Shared → Prop} (ok : (X.wish E).Ok) : X.Ok :=
  ⟨ok.mod, ok.kind, ok.glob, ok.blt, ok.above, ok.inj, ok.has, ok.cab, ok.hd, ok.frames, ok.stk, ok.exf, ok.bs, ok.bsz, ok.noex, ok.exfs, ok.funs, ok.frf⟩
section
variable {X : Cx} {pins : List (Addr × Obj)} {σ : St} {H : Hp} {s : Shared} {E : Value → Shared → Prop}
theorem Inv.wish (I : Inv X pins σ H s) (E : Value → Shared → Prop) : Inv (X.wish E) pins σ H s := ⟨I.ok.wish E, I.os, I.bare, I.base, I.loc, I.cell, I.free, I.freeC, I.pin, I.hok, I.len⟩
theorem Inv.unwish (I : Inv (X.wish E) pins σ H s) : Inv X pins σ H s := ⟨I.ok.unwish, I.os, I.bare, I.base, I.loc, I.cell, I.free, I.freeC, I.pin, I.hok, I.len⟩
theorem SP.unwish {D : Ends} {f : Flow} {s' : Shared} (h : SP (X.wish E) pins D f s') : SP X pins D f s' := by
  cases f with
  | next => obtain ⟨σ', H', I, q⟩ := h; exact ⟨σ', H', I.unwish, q⟩
  | brk => obtain ⟨σ', H', I, q⟩ := h; exact ⟨σ', H', I.unwish, q⟩
  | cont => obtain ⟨σ', H', I, q⟩ := h; exact ⟨σ', H', I.unwish, q⟩
  | ret u => obtain ⟨v, σ', H', I, r, q⟩ := h; exact ⟨v, σ', H', I.unwish, r, q⟩
theorem PE.nox {e : Expr} {t : TE} (h : PE X.nox e t) : PE X e t := fun pins s σ H Q I hw =>
  wpAny_mono (h pins s σ H Q (I.wish _) hw) (fun _ _ ⟨v, H', I', r, q⟩ => ⟨v, H', I'.unwish, r, q⟩) fun _ _ z => False.elim z
theorem PT.nox {e : Expr} {t : TT} (h : PT X.nox e t) : PT X e t := fun pins s σ H Q I hw =>
  wpAny_mono (h pins s σ H Q (I.wish _) hw) (fun _ _ ⟨H', I', q⟩ => ⟨H', I'.unwish, q⟩) fun _ _ z => False.elim z
theorem PSs.nox {st : List Stmt} {t : TS} (h : PSs X.nox st t) : PSs X st t := fun pins s σ H D I hw =>
  wpAny_mono (h pins s σ H D (I.wish _) hw) (fun _ _ q => q.unwish) fun _ _ z => False.elim z
end

/-! ### blocks and small statements -/
section
variable {X : Cx} {st : Stmt} {rest : List Stmt} {t u : TS} {e : Expr} {te : TE} {pos : Pos}
noncomputable def tNext : TS := fun D σ H => D.nx σ H
noncomputable def tSeq (t u : TS) : TS := fun D σ H => t { D with nx := u D } σ H
theorem pss_nil : PSs X [] tNext := fun _ _ σ H _ I h => wpAny_execs_nil ⟨σ, H, I, h⟩
theorem pss_cons (h1 : PS X st t) (h2 : PSs X rest u) : PSs X (st :: rest) (tSeq t u) := by
  intro pins s σ H D I h
  refine wpAny_execs_cons (thn (h1 pins s σ H { D with nx := u D } I h) fun f s1 q => ?_)
  cases f with
  | next =>
    obtain ⟨σ', H', I', q⟩ := q
    exact h2 pins s1 σ' H' D I' q
  | ret v => exact q
  | brk => exact q
  | cont => exact q
theorem pss_one (h1 : PS X st t) : PSs X [st] t := by
  intro pins s σ H D I h
  refine wpAny_execs_cons (thn (h1 pins s σ H D I h) fun f s1 q => ?_)
  cases f with
  | next => exact wpAny_execs_nil q
  | ret v => exact q
  | brk => exact q
  | cont => exact q
/-- in a def's body nothing is shown -/
theorem Inv.quiet {pins : List (Addr × Obj)} {σ : St} {H : Hp} {s : Shared} (I : Inv X pins σ H s) : interactive X.env = false := by simp [interactive, I.ok.kind]
/-- an expression whose value is dropped -/
noncomputable def tDrop (te : TE) : TS := fun D σ H => te σ H fun _ H1 => D.nx σ H1
theorem ps_expr (he : PE X e te) (hs : swapsWith e none pos.line X.env = pure false := by rfl) : PS X (.Expr e pos) (tDrop te) := by
  intro pins s σ H D I h
  (refine wpAny_Expr_any (thn (he pins s σ H _ I h) ?_) I.quiet hs; rintro v s1 ⟨x, H1, I1, r1, q1⟩; exact ⟨σ, H1, I1, q1⟩)
noncomputable def tRet (te : TE) : TS := fun D σ H => te σ H D.rt
theorem ps_ret (he : PE X e te) : PS X (.Return (some e) pos) (tRet te) := by
  intro pins s σ H D I h
  (refine wpAny_Return_some (thn (he pins s σ H _ I h) ?_); rintro v s1 ⟨x, H1, I1, r1, q1⟩; exact ⟨x, σ, H1, I1, r1, q1⟩)
noncomputable def tIfS (c : TT) (t u : TS) : TS := fun D σ H => c σ H fun b H1 => if b = true then t D σ H1 else u D σ H1
theorem ps_if {c : Expr} {a b : List Stmt} {tc : TT} (hc : PT X c tc) (ha : PSs X a t) (hb : PSs X b u) : PS X (.If c a b pos) (tIfS tc t u) := by
  intro pins s σ H D I h
  (refine wpAny_If (thn (hc pins s σ H _ I h) ?_); rintro d s1 ⟨H1, I1, q1⟩)
  cases d with
  | true => exact ha pins s1 σ H1 D I1 q1
  | false => exact hb pins s1 σ H1 D I1 q1
end

/-! ### targets -/
noncomputable abbrev TG := V → St → Hp → (St → Hp → Prop) → Prop
noncomputable abbrev TGs := List V → St → Hp → (St → Hp → Prop) → Prop
noncomputable def PG (X : Cx) (target : Expr) (t : TG) : Prop :=
  ∀ (pins : List (Addr × Obj)) (s : Shared) (σ : St) (H : Hp) (v : V) (u : Value) (Q : St → Hp → Prop), Inv X pins σ H s → RelV v u → t v σ H Q →
    wpAny (model X.prog X.w) X.A (assign target X.env u) (fun _ s' => ∃ σ' H', Inv X pins σ' H' s' ∧ Q σ' H') X.xe s
/-- several targets, one after another -/
noncomputable def PGs (X : Cx) (ts : List Expr) (t : TGs) : Prop :=
  ∀ (pins : List (Addr × Obj)) (s : Shared) (σ : St) (H : Hp) (vs : List V) (us : List Value) (Q : St → Hp → Prop), Inv X pins σ H s → Vals vs us → t vs σ H Q →
    wpAny (model X.prog X.w) X.A (assignInOrder ((assignEach ts X.env).map (·.2)) us) (fun _ s' => ∃ σ' H', Inv X pins σ' H' s' ∧ Q σ' H') X.xe s
/-- o[i] = v, by values -/
noncomputable abbrev TSet := V → V → V → Hp → (Hp → Prop) → Prop
noncomputable def PSet (X : Cx) (t : TSet) : Prop :=
  ∀ (pins : List (Addr × Obj)) (s : Shared) (σ : St) (H : Hp) (o i v : V) (ov iv u : Value) (Q : Hp → Prop), Inv X pins σ H s → RelV o ov → RelV i iv → RelV v u → t o i v H Q →
    wpAny (model X.prog X.w) X.A (setItem ov iv u) (fun _ s' => ∃ H', Inv X pins σ H' s' ∧ Q H') X.xe s
section
variable {X : Cx} {pos : Pos}
noncomputable def gName (i : Nat) : TG := fun v σ H Q => Q (σ.set i (some v)) H
theorem pg_name {i : Nat} {x : Str} (hN : X.N.Nodup) (hi : X.N[i]? = some x) (hx : Loc X.env.scope x) (hf : X.fn x = true ∨ X.env.scope.names.lookup x = some .local := by first | exact .inl rfl | exact .inr rfl | assumption) : PG X (.Name x pos) (gName i) := by
  intro pins s σ H v u Q I r h
  exact wpAny_assign_Name (store_ok I hN hi hx r (fun s' I' => ⟨_, H, I', h⟩) hf)
noncomputable def gNil : TGs := fun vs σ H Q => vs = [] ∧ Q σ H
noncomputable def gCons (t : TG) (u : TGs) : TGs := fun vs σ H Q => ∃ v r, vs = v :: r ∧ t v σ H fun σ' H' => u r σ' H' Q
theorem pgs_nil : PGs X [] gNil := by
  intro pins s σ H vs us Q I r h
  obtain ⟨e, h⟩ := h
  subst e
  cases r
  exact assignInOrder_nil ⟨σ, H, I, h⟩
theorem pgs_cons {e : Expr} {es : List Expr} {t : TG} {u : TGs} (h1 : PG X e t) (h2 : PGs X es u)
    (hs : (assignEach (e :: es) X.env).map (·.2) = assign e X.env :: (assignEach es X.env).map (·.2) := by rfl) : PGs X (e :: es) (gCons t u) := by
  intro pins s σ H vs us Q I r h
  obtain ⟨v, vr, e1, h⟩ := h
  subst e1
  cases r with
  | cons r rr =>
    rw [hs]
    (refine assignInOrder_cons (thn (h1 pins s σ H _ _ _ I r h) ?_); rintro _ s1 ⟨σ1, H1, I1, q1⟩)
    exact h2 pins s1 σ1 H1 _ _ Q I1 rr q1
/-- (a, b, ..) = a tuple of that length -/
noncomputable def gTup (K : PySem.W.Frag) (n : Nat) (t : TGs) : TG := fun v σ H Q => ∃ a xs, v = .ref a ∧ SqT K H a xs ∧ xs.length = n ∧ t xs σ H Q
theorem pg_tup {es : List Expr} {k : Nat} {t : TGs} {n : Nat} (hc : X.calm = true) (h : PGs X es t)
    (hn : (assignEach es X.env).length = n := by rfl) (hst : (assignEach es X.env).findIdx? (·.1) = none := by rfl) : PG X (.Tuple es k pos) (gTup X.K n t) := by
  intro pins s σ H v u Q I r hw
  obtain ⟨a, xs, e1, hq, hl, hw⟩ := hw
  subst e1
  cases r
  obtain ⟨its, rv, ht, hz⟩ := I.tuple hq
  refine assign_Tuple_tuple (I.ok.hd hc) ht (by simp [hn, ← hl, rv.length]) hst fun h' hx => ?_
  have I1 : Inv X pins σ H { s with heap := h' } := I.kept (t' := s.toks) fun b o e => hx b o (Nat.ne_of_lt (Heap.lt_size e)) e
  exact h pins _ σ H xs _ Q I1 (by simpa using rv) hw
/-- o[i] = .. -/
noncomputable def gSub (to ti : TE) (t : TSet) : TG := fun v σ H Q => to σ H fun o H1 => ti σ H1 fun i H2 => t o i v H2 fun H3 => Q σ H3
theorem pg_sub {o i : Expr} {to ti : TE} {t : TSet} (ho : PE X o to) (hi : PE X i ti) (hs : PSet X t)
    (ha : ∀ v, assign (.Subscript o i pos) X.env v = (do
      let ov ← holding [v] (eval o X.env)
      let iv ← holding [v, ov] (eval i X.env)
      standAt pos
      holding [v, ov, iv] (setItem ov iv v)
      release [v, ov, iv] []) := by intro _; rfl) : PG X (.Subscript o i pos) (gSub to ti t) := by
  intro pins s σ H v u Q I r h
  rw [ha]
  (refine wpAny_bind (wpAny_holding (thn (ho pins s σ H _ I h) ?_)); rintro ov s1 ⟨x, H1, I1, r1, q1⟩)
  (refine wpAny_bind (wpAny_holding (thn (hi pins s1 σ H1 _ I1 q1) ?_)); rintro iv s2 ⟨y, H2, I2, r2, q2⟩)
  (refine wpAny_bind (wpAny_standAt (wpAny_bind (wpAny_holding (thn (hs pins s2 σ H2 x y v ov iv u _ I2 r1 r2 r q2) ?_)))); rintro _ s3 ⟨H3, I3, q3⟩)
  exact wpAny_release ⟨σ, H3, I3, q3⟩
/-- target = value -/
noncomputable def tAsg (te : TE) (g : TG) : TS := fun D σ H => te σ H fun x H1 => g x σ H1 D.nx
theorem ps_asg {tg e : Expr} {te : TE} {g : TG} (he : PE X e te) (hg : PG X tg g) (hs : swapsWithSole [tg] e pos.line X.env = pure false := by rfl) (hw : swappedStores [tg] e X.env = pure none := by rfl)
    (h1 : (assignEach [tg] X.env).map (·.2) = [assign tg X.env] := by rfl) : PS X (.Assign [tg] e pos) (tAsg te g) := by
  intro pins s σ H D I h
  (refine wpAny_Assign_stores (thn (he pins s σ H _ I h) ?_) hs hw; rintro v s1 ⟨x, H1, I1, r1, q1⟩)
  rw [h1]
  exact thn (hg pins s1 σ H1 x v _ I1 r1 q1) fun _ s2 q => q
/-- name = value -/
theorem ps_set {i : Nat} {x : Str} {e : Expr} {te : TE} {pos' : Pos} (hN : X.N.Nodup) (hi : X.N[i]? = some x) (hx : Loc X.env.scope x) (he : PE X e te) (hs : swapsWith e (some (.Name x pos')) pos.line X.env = pure false := by rfl) (hf : X.fn x = true ∨ X.env.scope.names.lookup x = some .local := by first | exact .inl rfl | exact .inr rfl | assumption) :
    PS X (.Assign [.Name x pos'] e pos) (tAsg te (gName i)) := by
  intro pins s σ H D I h
  (refine wpAny_Assign_Name (thn (he pins s σ H _ I h) ?_) hs; rintro v s1 ⟨y, H1, I1, r1, q1⟩)
  exact store_ok I1 hN hi hx r1 (fun s2 I2 => ⟨_, H1, I2, q1⟩) hf
end

/-! ### while -/
section
variable {X : Cx} {pos : Pos}
end

/-! ### what a loop or a comprehension walks -/
/-- at turn i: it yields x (the heap may grow), or it stops -/
structure It where
  go : Nat → Hp → Prop
  yld : Nat → Hp → V → Hp → Prop
  stop : Nat → Hp → Prop
/-- the iterator's own objects may turn: they are not the frame's, not pinned, younger than the entry (or a comprehension's own) -/
noncomputable def FpOk (X : Cx) (pins : List (Addr × Obj)) (H : Hp) (b : Addr) : Prop :=
  H b = none ∧ b ≠ X.env.locals ∧ b ∉ X.fs ∧ (b ∈ X.ex ∨ X.s₀.heap.objs.size ≤ b) ∧ (∀ x c, X.env.cells.lookup x = some c → c ≠ b) ∧ ∀ p ∈ X.pn ++ pins, p.1 ≠ b
theorem Inv.fpOk {X : Cx} {pins : List (Addr × Obj)} {σ : St} {H H' : Hp} {s : Shared} {b : Addr} (I : Inv X pins σ H s) (hb : s.heap.objs.size ≤ b) (hn : H' b = none) : FpOk X pins H' b := by
  refine ⟨hn, Nat.ne_of_gt (Nat.lt_of_lt_of_le I.lt hb), I.nofs hb, .inr (Nat.le_trans I.sz hb), fun x c e z => ?_, fun p hp z => ?_⟩
  · obtain ⟨v, q⟩ := I.cell x c e
    exact absurd (Nat.lt_of_lt_of_le q.lt (by rw [z]; exact hb)) (Nat.lt_irrefl _)
  · exact absurd (Nat.lt_of_lt_of_le (Heap.lt_size (I.pin p hp).1) (by rw [z]; exact hb)) (Nat.lt_irrefl _)
structure Turn (P : Program) (w : World) (K : PySem.W.Frag) (tg : Expr) (J : It) (fp : List Addr) (it : Addr) (tn : Nat → Heap → Prop) : Prop where
  mem : it ∈ fp
  obj : ∀ i h, tn i h → ∀ b ∈ fp, ∃ o, h.get? b = some o ∧ ∀ v, o.data ≠ .cell v
  keep : ∀ i h h', tn i h → (∀ b ∈ fp, ∀ o, h.get? b = some o → h'.get? b = some o) → tn i h'
  item : ∀ (X : Cx), X.prog = P → X.w = w → X.K = K → X.calm = true → ∀ (i : Nat) (pins : List (Addr × Obj)) (s : Shared) (σ : St) (H : Hp) (E : Value → Shared → Prop), Inv X pins σ H s → (∀ b ∈ fp, FpOk X pins H b) → tn i s.heap → J.go i H →
    wpAny (model P w) X.A (pyNext (.ref it)) (fun r s1 => ∃ u, r = some u ∧
      wpAny (model P w) X.A (letOwnedTupleGo tg (.ref it) u) (fun _ s2 => ∃ x H', Inv X pins σ H' s2 ∧ RelV x u ∧ J.yld i H x H' ∧ tn (i + 1) s2.heap ∧ ∀ b ∈ fp, H' b = none) E s1) E s
  done : ∀ (X : Cx), X.prog = P → X.w = w → X.K = K → X.calm = true → ∀ (i : Nat) (pins : List (Addr × Obj)) (s : Shared) (σ : St) (H : Hp) (E : Value → Shared → Prop), Inv X pins σ H s → (∀ b ∈ fp, FpOk X pins H b) → tn i s.heap → J.stop i H →
    wpAny (model P w) X.A (pyNext (.ref it)) (fun r s1 => r = none ∧ Inv X pins σ H s1) E s
  self : ∀ (A : Around) (i : Nat) (s : Shared) (Q : Value → Shared → Prop) (E : Value → Shared → Prop), tn i s.heap → Q (.ref it) s → wpAny (model P w) A (pyIter (.ref it)) Q E s
noncomputable abbrev TI := St → Hp → (It → Hp → Prop) → Prop
/-- an iterator has come -/
noncomputable def PIE (X : Cx) (pins : List (Addr × Obj)) (σ : St) (tg : Expr) (R : It → Hp → Prop) (itv : Value) (s2 : Shared) : Prop :=
  ∃ (it : Addr) (fp : List Addr) (tn : Nat → Heap → Prop) (J : It) (H' : Hp), itv = .ref it ∧ Inv X pins σ H' s2 ∧ Turn X.prog X.w X.K tg J fp it tn ∧ tn 0 s2.heap ∧ (∀ b ∈ fp, FpOk X pins H' b) ∧ R J H'
noncomputable def PI (X : Cx) (tg iter : Expr) (wi : TI) : Prop :=
  ∀ (pins : List (Addr × Obj)) (s : Shared) (σ : St) (H : Hp) (R : It → Hp → Prop), Inv X pins σ H s → wi σ H R →
    wpAny (model X.prog X.w) X.A (eval iter X.env) (fun v s1 => wpAny (model X.prog X.w) X.A (pyIter v) (PIE X pins σ tg R) X.xe s1) X.xe s

/-- the step ahead of the store is nothing for an iterator that keeps no tuple -/
theorem go_of {M : Model} {A : Around} {E : Value → Shared → Prop} {s : Shared} {tg : Expr} {it : Addr} {u : Value} {o : Obj} {n : String} {vs : Array Value} {Q : Unit → Shared → Prop} (ho : s.heap.get? it = some o) (hc : o.cls = .type n) (hd : o.data = .fields vs)
    (hn : ["enumerate", "zip", "dict_itemiterator", "dict_reverseitemiterator", "odict_iterator", "itertools.zip_longest", "itertools.pairwise"].contains n = false) (hQ : Q () s) : wpAny M A (letOwnedTupleGo tg (.ref it) u) Q E s := by
  unfold letOwnedTupleGo
  cases tg <;> first
    | exact wpAny_pure hQ
    | (cases u <;> first
        | exact wpAny_pure hQ
        | (refine wpAny_bind (wpAny_load ho ?_)
           rw [hc, hd]
           show wpAny M A (if (["enumerate", "zip", "dict_itemiterator", "dict_reverseitemiterator", "odict_iterator", "itertools.zip_longest", "itertools.pairwise"].contains n && vs[0]? == some (rawInt _)) = true then _ else _) Q E s
           rw [if_neg (by intro h; rw [hn, Bool.false_and] at h; cases h)]
           exact wpAny_pure hQ))

/-- the list at a, as it stands at each turn (a loop may append to it) -/
noncomputable def Itl (K : PySem.W.Frag) (a : Addr) : It :=
  ⟨fun i H => ∃ xs x, SqL K H a xs ∧ xs[i]? = some x, fun i H x H' => H' = H ∧ ∀ xs, SqL K H a xs → xs[i]? = some x, fun i H => ∃ xs, SqL K H a xs ∧ xs.length ≤ i⟩
noncomputable def Itt (K : PySem.W.Frag) (a : Addr) : It :=
  ⟨fun i H => ∃ xs x, SqT K H a xs ∧ xs[i]? = some x, fun i H x H' => H' = H ∧ ∀ xs, SqT K H a xs → xs[i]? = some x, fun i H => ∃ xs, SqT K H a xs ∧ xs.length ≤ i⟩
/-- lo, lo + 1, .. (n of them) -/
noncomputable def Itr (lo : Int) (n : Nat) : It := ⟨fun i _ => i < n, fun i H x H' => H' = H ∧ x = .int (lo + i), fun i _ => n ≤ i⟩
theorem turn_list {P : Program} {w : World} {K : PySem.W.Frag} {tg : Expr} (a it : Addr) : Turn P w K tg (Itl K a) [it] it (fun i h => h.IsListIter it a i) where
  mem := by simp
  obj := fun i h st b hb => by
    have e : b = it := by simpa using hb
    subst e
    obtain ⟨o, e, c, d⟩ := st
    exact ⟨o, e, fun v z => by rw [d] at z; cases z⟩
  keep := fun i h h' st k => st.at fun o e => k it (by simp) o e
  item := by
    intro X hP hw hK hc i pins s σ H E I hf st hg
    subst hP hw hK
    obtain ⟨xs, x, hq, hx⟩ := hg
    obtain ⟨its, rv, p, hz⟩ := I.list hq
    obtain ⟨u, hu, ru⟩ := rv.get hx
    obtain ⟨f0, f1, f2, f3, f4, f5⟩ := hf it (by simp)
    refine wpAny_pyNext_list_item st p.isList (x := u) (by simpa using hu) fun h' st' sb => ?_
    have I1 : Inv X pins σ H { s with heap := h' } := I.turned (t' := s.toks) (fun b o hb e => (sb.2 b hb).trans e) f0 f1 f3 f4 f5
    obtain ⟨o, e, c, d⟩ := id st'
    exact ⟨u, rfl, go_of (s := { s with heap := h' }) e c d (by decide) ⟨x, H, I1, ru, ⟨rfl, fun ys hy => by rw [I.list_inj hy hq]; exact hx⟩, st', fun b hb => (hf b hb).1⟩⟩
  done := by
    intro X hP hw hK hc i pins s σ H E I hf st hg
    subst hP hw hK
    obtain ⟨xs, hq, hx⟩ := hg
    obtain ⟨its, rv, p, hz⟩ := I.list hq
    obtain ⟨f0, f1, f2, f3, f4, f5⟩ := hf it (by simp)
    have hl := rv.length
    exact wpAny_pyNext_list_end (I.ok.hd hc) st p.isList (by simp; omega) fun h' eb => ⟨rfl, I.turned (t' := s.toks) (fun b o hb e => eb b o hb e) f0 f1 f3 f4 f5⟩
  self := fun _ _ _ _ _ st h => wpAny_pyIter_listiter st h
theorem turn_tuple {P : Program} {w : World} {K : PySem.W.Frag} {tg : Expr} (a it : Addr) : Turn P w K tg (Itt K a) [it] it (fun i h => h.IsTupleIter it a i) where
  mem := by simp
  obj := fun i h st b hb => by
    have e : b = it := by simpa using hb
    subst e
    obtain ⟨o, e, c, d⟩ := st
    exact ⟨o, e, fun v z => by rw [d] at z; cases z⟩
  keep := fun i h h' st k => st.at fun o e => k it (by simp) o e
  item := by
    intro X hP hw hK hc i pins s σ H E I hf st hg
    subst hP hw hK
    obtain ⟨xs, x, hq, hx⟩ := hg
    obtain ⟨its, rv, p, hz⟩ := I.tuple hq
    obtain ⟨u, hu, ru⟩ := rv.get hx
    obtain ⟨f0, f1, f2, f3, f4, f5⟩ := hf it (by simp)
    refine wpAny_pyNext_tuple_item st (show s.heap.IsTuple a its.toArray from p) (x := u) (by simpa using hu) fun h' st' sb => ?_
    have I1 : Inv X pins σ H { s with heap := h' } := I.turned (t' := s.toks) (fun b o hb e => (sb.2 b hb).trans e) f0 f1 f3 f4 f5
    obtain ⟨o, e, c, d⟩ := id st'
    exact ⟨u, rfl, go_of (s := { s with heap := h' }) e c d (by decide) ⟨x, H, I1, ru, ⟨rfl, fun ys hy => by rw [I.tuple_inj hy hq]; exact hx⟩, st', fun b hb => (hf b hb).1⟩⟩
  done := by
    intro X hP hw hK hc i pins s σ H E I hf st hg
    subst hP hw hK
    obtain ⟨xs, hq, hx⟩ := hg
    obtain ⟨its, rv, p, hz⟩ := I.tuple hq
    obtain ⟨f0, f1, f2, f3, f4, f5⟩ := hf it (by simp)
    have hl := rv.length
    exact wpAny_pyNext_tuple_end (I.ok.hd hc) st (show s.heap.IsTuple a its.toArray from p) (by simp; omega) fun h' eb => ⟨rfl, I.turned (t' := s.toks) (fun b o hb e => eb b o hb e) f0 f1 f3 f4 f5⟩
  self := fun _ _ _ _ _ st h => wpAny_pyIter_tupleiter st h
theorem turn_range {P : Program} {w : World} {K : PySem.W.Frag} {tg : Expr} (it : Addr) (lo : Int) (n : Nat) : Turn P w K tg (Itr lo n) [it] it (fun i h => IsRangeIter h it (lo + (i : Nat) * 1) ((n : Int) - (i : Nat)) 1) where
  mem := by simp
  obj := fun i h st b hb => by
    have e : b = it := by simpa using hb
    subst e
    exact ⟨_, st, fun v z => by
      have z' : Data.fields _ = Data.cell v := z
      cases z'⟩
  keep := fun i h h' st k => k it (by simp) _ st
  item := by
    intro X hP hw hK hc i pins s σ H E I hf st hg
    subst hP hw hK
    obtain ⟨f0, f1, f2, f3, f4, f5⟩ := hf it (by simp)
    have W := Walks.range (prog := X.prog) (w := X.w) (I.ok.hd hc) it lo 1 n
    refine W.item i s _ _ hg st fun v h' tk hv st' kk => ?_
    obtain ⟨t, rfl⟩ := hv
    have I1 : Inv X pins σ H { s with heap := h', toks := tk } := I.turned (fun b o hb e => kk b o (by simpa using hb) e) f0 f1 f3 f4 f5
    refine ⟨_, rfl, go_of (s := { s with heap := h', toks := tk }) (n := "range_iterator") st' rfl rfl (by decide) ⟨.int (lo + i), H, I1, ⟨t, ?_⟩, ⟨rfl, rfl⟩, st', fun b hb => (hf b hb).1⟩⟩
    rw [Int.mul_one]
  done := by
    intro X hP hw hK hc i pins s σ H E I hf st hg
    subst hP hw hK
    obtain ⟨f0, f1, f2, f3, f4, f5⟩ := hf it (by simp)
    exact wpAny_pyNext_range_end (I.ok.hd hc) st (by have : n ≤ i := hg; omega) fun h' eb => ⟨rfl, I.turned (t' := s.toks) (fun b o hb e => eb b o hb e) f0 f1 f3 f4 f5⟩
  self := fun _ _ _ _ _ st h => wpAny_pyIter_rangeiter st h
end L2

namespace L2
open PySem PySem.Spec PyProof.Rows
section
variable {X : Cx} {tg : Expr}
/-- a range object just made, walked -/
theorem range_it {pins : List (Addr × Obj)} {σ : St} {H : Hp} {s : Shared} {R : It → Hp → Prop} {E : Value → Shared → Prop} {lo hi : Int} {t u v : Tok} {tk : Nat} (I : Inv X pins σ H s) (h1 : -(2 ^ 62) ≤ lo) (h2 : lo < 2 ^ 62) (h3 : -(2 ^ 62) ≤ hi) (h4 : hi < 2 ^ 62)
    (q : R (Itr lo (hi - lo).toNat) H) : wpAny (model X.prog X.w) X.A (pyIter (.ref s.heap.objs.size)) (PIE X pins σ tg R) E { s with heap := s.heap.push { cls := .type "range", data := .fields #[.int lo t, .int hi u, .int 1 v] }, toks := tk } := by
  refine wpAny_pyIter_range (IsRange.new ..) (small_one h1 h2 h3 h4) ?_
  have I1 : Inv X pins σ H { s with heap := s.heap.push { cls := .type "range", data := .fields #[.int lo t, .int hi u, .int 1 v] }, toks := tk } := I.kept fun b o e => Heap.get?_push_of_some _ e
  refine ⟨(s.heap.push { cls := .type "range", data := .fields #[.int lo t, .int hi u, .int 1 v] }).objs.size, [(s.heap.push { cls := .type "range", data := .fields #[.int lo t, .int hi u, .int 1 v] }).objs.size], _, _, H, rfl,
    I1.kept (t' := tk) fun b o e => Heap.get?_push_of_some _ e, turn_range _ lo (hi - lo).toNat, ?_, fun b hb => ?_, q⟩
  · have e1 : lo + ((0 : Nat) : Int) * 1 = lo := by simp
    have e2 : (((hi - lo).toNat : Nat) : Int) - ((0 : Nat) : Int) = Builtin.Range.rangeSize lo hi 1 := by rw [rangeSize_one]; split <;> omega
    show IsRangeIter _ _ (lo + ((0 : Nat) : Int) * 1) ((((hi - lo).toNat : Nat) : Int) - ((0 : Nat) : Int)) 1
    rw [e1, e2]
    exact Heap.get?_push_size _ rfl
  · have e : b = (s.heap.push { cls := .type "range", data := .fields #[.int lo t, .int hi u, .int 1 v] }).objs.size := by simpa using hb
    subst e
    exact I1.fpOk (Nat.le_refl _) (I1.hok.fresh (Nat.le_refl _))
noncomputable def iRng1 (ta : TA) : TI := fun σ H R => ta σ H fun vs H1 => ∃ j : Int, vs = [.int j] ∧ -(2 ^ 62) ≤ j ∧ j < 2 ^ 62 ∧ R (Itr 0 j.toNat) H1
noncomputable def iRng2 (ta : TA) : TI := fun σ H R => ta σ H fun vs H1 => ∃ i j : Int, vs = [.int i, .int j] ∧ (-(2 ^ 62) ≤ i ∧ i < 2 ^ 62 ∧ -(2 ^ 62) ≤ j ∧ j < 2 ^ 62) ∧ R (Itr i (j - i).toNat) H1
theorem pi_range1 {a : Expr} {ta : TA} {p pos : Pos} (hg : Gl X "range") (hm : X.mg "range" = none) (ha : PA X [a] ta) (hs : starEach [a] X.env = [(false, eval a X.env)] := by rfl) : PI X tg (.Call (.Name "range" p) [a] [] pos) (iRng1 ta) := by
  intro pins s σ H R I h
  (refine Call_ (ld_blt I hg hm boot_range (PyProof.Rows.callWith_type1 (thn (ha pos pins s σ H _ I h) ?_) hs rfl)); rintro us s1 ⟨vs, H1, I1, r1, q1⟩)
  obtain ⟨j, e, q1, q2, q⟩ := q1
  subst e
  cases r1 with
  | cons r rr =>
    cases rr
    obtain ⟨t, rfl⟩ := r
    exact call_range_1 (range_it I1 (by omega) (by omega) q1 q2 (by simpa using q))
theorem pi_range2 {a b : Expr} {ta : TA} {p pos : Pos} (hg : Gl X "range") (hm : X.mg "range" = none) (ha : PA X [a, b] ta) (hs : starEach [a, b] X.env = [(false, eval a X.env), (false, eval b X.env)] := by rfl) (hs2 : starEach [b] X.env = [(false, eval b X.env)] := by rfl) :
    PI X tg (.Call (.Name "range" p) [a, b] [] pos) (iRng2 ta) := by
  intro pins s σ H R I h
  refine Call_ (ld_blt I hg hm boot_range (PyProof.Rows.callWith_type1 (thn (ha pos pins s σ H _ I h) fun us s1 ⟨vs, H1, I1, r1, q1⟩ => ?_) (by rw [hs, hs2]) (by rw [hs2]; rfl)))
  obtain ⟨i, j, e, ⟨q1, q2, q3, q4⟩, q⟩ := q1
  subst e
  cases r1 with
  | cons r rr =>
    cases rr with
    | cons r' rr =>
      cases rr
      obtain ⟨t, rfl⟩ := r
      obtain ⟨t', rfl⟩ := r'
      exact call_range_2 (range_it I1 q1 q2 q3 q4 q)

/-! ### for -/
/-- W: the invariant by the turn and a measure; N: what the body is to reach -/
noncomputable def tFor (wi : TI) (g : TG) (tb : TS) : TS := fun D σ H => wi σ H fun J H1 => ∃ W : Nat → Nat → St → Hp → Prop, (∃ m, W 0 m σ H1) ∧ ∀ i m σ H, W i m σ H →
  (J.stop i H ∧ D.nx σ H) ∨ (J.go i H ∧ ∃ N : St → Hp → Prop, (∀ σ' H', N σ' H' → ∃ m', m' < m ∧ W (i + 1) m' σ' H') ∧ ∀ x H', J.yld i H x H' → g x σ H' fun σ2 H2 => tb { D with nx := N, ct := N, bk := D.nx } σ2 H2)
/-- the records at fp as they stand -/
noncomputable def pinsAt (fp : List Addr) (h : Heap) : List (Addr × Obj) := fp.filterMap fun b => (h.get? b).map fun o => (b, o)
theorem mem_pinsAt {fp : List Addr} {h : Heap} {b : Addr} {o : Obj} (hb : b ∈ fp) (e : h.get? b = some o) : (b, o) ∈ pinsAt fp h := List.mem_filterMap.mpr ⟨b, hb, by rw [e]; rfl⟩
theorem of_pinsAt {fp : List Addr} {h : Heap} {p : Addr × Obj} (hp : p ∈ pinsAt fp h) : p.1 ∈ fp ∧ h.get? p.1 = some p.2 := by
  obtain ⟨b, hb, e⟩ := List.mem_filterMap.mp hp
  cases q : h.get? b with
  | none => rw [q] at e; cases e
  | some o =>
    rw [q] at e
    have e' : (b, o) = p := Option.some.inj e
    subst e'
    exact ⟨hb, q⟩
theorem Inv.pinned {pins : List (Addr × Obj)} {σ : St} {H : Hp} {s : Shared} {fp : List Addr} (I : Inv X pins σ H s) (hf : ∀ b ∈ fp, FpOk X pins H b) (ho : ∀ b ∈ fp, ∃ o, s.heap.get? b = some o ∧ ∀ v, o.data ≠ .cell v) : Inv X (pins ++ pinsAt fp s.heap) σ H s :=
  I.pins_of fun p hp => (List.mem_append.mp hp).elim (fun z => I.pin p (List.mem_append_right _ z)) fun z => by
    obtain ⟨hb, e⟩ := of_pinsAt z
    obtain ⟨f0, f1, f2, _⟩ := hf p.1 hb
    obtain ⟨o, e', d⟩ := ho p.1 hb
    rw [e] at e'; cases e'
    exact ⟨e, f0, f1, f2, d⟩
theorem Inv.unpinned {pins pl : List (Addr × Obj)} {σ : St} {H : Hp} {s : Shared} (I : Inv X (pins ++ pl) σ H s) : Inv X pins σ H s := I.pins_of fun p hp => I.pin p (List.mem_append_right _ (List.mem_append_left _ hp))
theorem ps_for {iter : Expr} {body : List Stmt} {wi : TI} {g : TG} {tb : TS} {pos : Pos} (hp : PassesOwn (model X.prog X.w) X.A X.env X.xe) (hc : X.calm = true) (hi : PI X tg iter wi) (hg : PG X tg g) (hb : PSs X body tb)
    (hs : ∀ x, foldedSetIterable iter X.env x = pure x := by intro _; rfl) : PS X (.For tg iter body [] pos) (tFor wi g tb) := by
  intro pins s σ H D I h
  refine wpAny_For (thn (hi pins s σ H _ I h) fun v s1 h1 => thn h1 fun itv s2 h2 => ?_) hs
  obtain ⟨it, fp, tn, J, H2, e, I2, T, st2, f2, W, ⟨m0, w0⟩, turn⟩ := h2
  subst e
  -- what stays true of the iterator's objects through the loop
  have stat : ∀ {H' : Hp}, (∀ b ∈ fp, H' b = none) → ∀ b ∈ fp, FpOk X pins H' b := fun hn b hb => ⟨hn b hb, (f2 b hb).2⟩
  refine codeAny_forLoop_any (fun n s' => ∃ i σ' H', Inv X pins σ' H' s' ∧ tn i s'.heap ∧ (∀ b ∈ fp, H' b = none) ∧ W i n σ' H') ?_ m0 ⟨0, σ, H2, I2, st2, fun b hb => (f2 b hb).1, w0⟩
  rintro n s3 ⟨i, σ3, H3, I3, st3, fr3, w3⟩
  rcases turn i n σ3 H3 w3 with ⟨stop, qn⟩ | ⟨go, N, hN, step⟩
  · (refine wpAny_passesOwn hp (thn (T.done X rfl rfl rfl hc i pins s3 σ3 H3 X.xe I3 (stat fr3) st3 stop) ?_); rintro r s4 ⟨hr, I4⟩)
    subst hr
    exact wpAny_execs_nil ⟨σ3, H3, I4, qn⟩
  · (refine wpAny_passesOwn hp (thn (T.item X rfl rfl rfl hc i pins s3 σ3 H3 X.xe I3 (stat fr3) st3 go) ?_); rintro r s4 ⟨u, hr, h4⟩)
    subst hr
    (refine wpAny_passesOwn hp (thn h4 ?_); rintro _ s5 ⟨x, H5, I5, r5, y5, st5, fr5⟩)
    have I5' := I5.pinned (stat fr5) (T.obj _ _ st5)
    (refine wpAny_passesOwn hp (thn (hg _ s5 σ3 H5 x u _ I5' r5 (step x H5 y5)) ?_); rintro _ s6 ⟨σ6, H6, I6, q6⟩)
    refine wpAny_passesOwn hp (thn (hb _ s6 σ6 H6 _ I6 q6) fun f s7 q7 => ?_)
    have again : ∀ {σ7 : St} {H7 : Hp}, Inv X (pins ++ pinsAt fp s5.heap) σ7 H7 s7 → N σ7 H7 → ∃ m, m < n ∧ ∃ i σ' H', Inv X pins σ' H' s7 ∧ tn i s7.heap ∧ (∀ b ∈ fp, H' b = none) ∧ W i m σ' H' := fun {σ7 H7} I7 n7 => by
      obtain ⟨m', hm, w7⟩ := hN σ7 H7 n7
      refine ⟨m', hm, i + 1, σ7, H7, I7.unpinned, T.keep _ _ _ st5 fun b hb o e => (I7.pin (b, o) (List.mem_append_right _ (List.mem_append_right _ (mem_pinsAt hb e)))).1, fun b hb => ?_, w7⟩
      obtain ⟨o, e, d⟩ := T.obj _ _ st5 b hb
      exact (I7.pin (b, o) (List.mem_append_right _ (List.mem_append_right _ (mem_pinsAt hb e)))).2.1
    cases f with
    | next => obtain ⟨σ7, H7, I7, n7⟩ := q7; exact again I7 n7
    | cont => obtain ⟨σ7, H7, I7, n7⟩ := q7; exact again I7 n7
    | brk => obtain ⟨σ7, H7, I7, q7⟩ := q7; exact ⟨σ7, H7, I7.unpinned, q7⟩
    | ret v => obtain ⟨x7, σ7, H7, I7, r7, q7⟩ := q7; exact ⟨x7, σ7, H7, I7.unpinned, r7, q7⟩
end

/-! ### the forms one uses -/
end L2

namespace L2
open PySem PySem.Spec PyProof.Rows

noncomputable abbrev R2 := V → V → Hp → VK → Prop
/-- a two-place operation on values: f is binaryOp op, inplaceOp op or compareOp op -/
noncomputable def OpR (X : Cx) (f : Value → Value → Sem Value) (r : R2) : Prop :=
  ∀ (pins : List (Addr × Obj)) (s : Shared) (σ : St) (H : Hp) (x y : V) (v u : Value) (Q : VK), Inv X pins σ H s → RelV x v → RelV y u → r x y H Q →
    wpAny (model X.prog X.w) X.A (f v u) (EP X pins σ Q) X.xe s
/-- a one-place operation -/
noncomputable def UnR (X : Cx) (f : Value → Sem Value) (r : V → Hp → VK → Prop) : Prop :=
  ∀ (pins : List (Addr × Obj)) (s : Shared) (σ : St) (H : Hp) (x : V) (v : Value) (Q : VK), Inv X pins σ H s → RelV x v → r x H Q →
    wpAny (model X.prog X.w) X.A (f v) (EP X pins σ Q) X.xe s
/-- a call of a value that is known (a builtin, a type) with values -/
noncomputable def CallR (X : Cx) (f : Value) (r : List V → Hp → VK → Prop) : Prop :=
  ∀ (pins : List (Addr × Obj)) (s : Shared) (σ : St) (H : Hp) (xs : List V) (us : List Value) (Q : VK), Inv X pins σ H s → Vals xs us → r xs H Q →
    wpAny (model X.prog X.w) X.A (call f us) (EP X pins σ Q) X.xe s

noncomputable def tOp (r : R2) (ta tb : TE) : TE := fun σ H Q => ta σ H fun x H1 => tb σ H1 fun y H2 => r x y H2 Q
noncomputable def tUn (r : V → Hp → VK → Prop) (ta : TE) : TE := fun σ H Q => ta σ H fun x H1 => r x H1 Q
/-- ints in, under C, and a value out -/
noncomputable def rI (C : Int → Int → Prop) (g : Int → Int → V) : R2 := fun x y H Q => ∃ i j, x = .int i ∧ y = .int j ∧ C i j ∧ Q (g i j) H
noncomputable def rI0 (g : Int → Int → V) : R2 := fun x y H Q => ∃ i j, x = .int i ∧ y = .int j ∧ Q (g i j) H
noncomputable def rU (g : Int → V) : V → Hp → VK → Prop := fun x H Q => ∃ i, x = .int i ∧ Q (g i) H

section
variable {X : Cx} {a b c : Expr} {ta tb tc : TE} {pos : Pos}

theorem binT (ha : PE X a ta) (hb : PE X b tb) {pins : List (Addr × Obj)} {s : Shared} {σ : St} {H : Hp} {R : V → V → Hp → Prop} (I : Inv X pins σ H s)
    (h : ta σ H fun x H1 => tb σ H1 fun y H2 => R x y H2) {Q : Value → Shared → Prop} {f : Value → Value → Sem Value}
    (hf : ∀ v u s2 x y H2, Inv X pins σ H2 s2 → RelV x v → RelV y u → R x y H2 → wpAny (model X.prog X.w) X.A (f v u) Q X.xe s2) :
    wpAny (model X.prog X.w) X.A (eval a X.env) (fun v s₁ => wpAny (model X.prog X.w) X.A (eval b X.env) (fun u s₂ => wpAny (model X.prog X.w) X.A (f v u) Q X.xe s₂) X.xe s₁) X.xe s := by
  (refine thn (ha pins s σ H _ I h) ?_; rintro v s1 ⟨x, H1, I1, r1, q1⟩)
  (refine thn (hb pins s1 σ H1 _ I1 q1) ?_; rintro u s2 ⟨y, H2, I2, r2, q2⟩)
  exact hf v u s2 x y H2 I2 r1 r2 q2

theorem pe_op {op : Operator} {r : R2} (ho : OpR X (binaryOp op) r) (ha : PE X a ta) (hb : PE X b tb) : PE X (.BinOp a op b pos) (tOp r ta tb) := by
  intro pins s σ H Q I h
  exact wpAny_BinOp (binT ha hb I h fun v u s2 x y H2 I2 rx ry q => ho pins s2 σ H2 x y v u Q I2 rx ry q)
theorem pe_un {op : UnaryOp} {r : V → Hp → VK → Prop} (ho : UnR X (unaryOp op) r) (ha : PE X a ta) : PE X (.UnaryOp op a pos) (tUn r ta) := by
  intro pins s σ H Q I h
  (refine UnaryOp_ (thn (ha pins s σ H _ I h) ?_); rintro v s1 ⟨x, H1, I1, r1, q1⟩; exact ho pins s1 σ H1 x v Q I1 r1 q1)

/-! ### ints -/
theorem opI {f : Value → Value → Sem Value} {C : Int → Int → Prop} {g : Int → Int → Int}
    (rule : ∀ (i j : Int) (t u : Tok) (s : Shared) (Q : Value → Shared → Prop) (E : Value → Shared → Prop), C i j → Q (.int (g i j) s.toks) { s with toks := s.toks + 1 } → wpAny (model X.prog X.w) X.A (f (.int i t) (.int j u)) Q E s) :
    OpR X f (rI C fun i j => .int (g i j)) := by
  intro pins s σ H x y v u Q I rx ry h
  obtain ⟨i, j, rfl, rfl, hc, q⟩ := h
  obtain ⟨t, rfl⟩ := rx
  obtain ⟨t', rfl⟩ := ry
  exact rule i j t t' s _ _ hc ⟨.int (g i j), H, I.tok _, ⟨_, rfl⟩, q⟩
theorem opI0 {f : Value → Value → Sem Value} {g : Int → Int → Int}
    (rule : ∀ (i j : Int) (t u : Tok) (s : Shared) (Q : Value → Shared → Prop) (E : Value → Shared → Prop), Q (.int (g i j) s.toks) { s with toks := s.toks + 1 } → wpAny (model X.prog X.w) X.A (f (.int i t) (.int j u)) Q E s) :
    OpR X f (rI0 fun i j => .int (g i j)) := by
  intro pins s σ H x y v u Q I rx ry h
  obtain ⟨i, j, rfl, rfl, q⟩ := h
  obtain ⟨t, rfl⟩ := rx
  obtain ⟨t', rfl⟩ := ry
  exact rule i j t t' s _ _ ⟨.int (g i j), H, I.tok _, ⟨_, rfl⟩, q⟩
theorem opB0 {f : Value → Value → Sem Value} {g : Int → Int → Bool}
    (rule : ∀ (i j : Int) (t u : Tok) (s : Shared) (Q : Value → Shared → Prop) (E : Value → Shared → Prop), Q (.bool (g i j)) s → wpAny (model X.prog X.w) X.A (f (.int i t) (.int j u)) Q E s) :
    OpR X f (rI0 fun i j => .bl (g i j)) := by
  intro pins s σ H x y v u Q I rx ry h
  obtain ⟨i, j, rfl, rfl, q⟩ := h
  obtain ⟨t, rfl⟩ := rx
  obtain ⟨t', rfl⟩ := ry
  exact rule i j t t' s _ _ ⟨.bl (g i j), H, I, rfl, q⟩

noncomputable def CDiv (i j : Int) : Prop := 0 < j ∧ j < 1073741824
noncomputable def CPow (i j : Int) : Prop := 0 ≤ j ∧ j ≤ 1000000 ∧ i.natAbs < 2 ^ 64
noncomputable def CMul (i j : Int) : Prop := (-(2 ^ 64) < i ∧ i < 2 ^ 64) ∨ (-(2 ^ 64) < j ∧ j < 2 ^ 64)
theorem CMul.ok {i j : Int} (h : CMul i j) : IntMulOk i j := by
  rcases h with ⟨h1, h2⟩ | ⟨h1, h2⟩
  · exact .of_left (intBits_le_64 h1 h2)
  · exact .of_right (intBits_le_64 h1 h2)

theorem op_add : OpR X (binaryOp .Add) (rI0 fun i j => .int (i + j)) := opI0 fun _ _ _ _ _ _ _ q => add_int q
theorem op_sub : OpR X (binaryOp .Sub) (rI0 fun i j => .int (i - j)) := opI0 fun _ _ _ _ _ _ _ q => sub_int q
theorem op_mul : OpR X (binaryOp .Mult) (rI CMul fun i j => .int (i * j)) := opI fun _ _ _ _ _ _ _ hc q => mul_int q hc.ok
/-- // by a positive divisor -/
theorem op_fdiv : OpR X (binaryOp .FloorDiv) (rI CDiv fun i j => .int (i / j)) := opI fun i j _ _ _ _ _ hc q => by
  have h1 : (0 : Int) < j := hc.1
  have h2 : j < 1073741824 := hc.2
  exact floordiv_int (by omega) (by rw [Int.fdiv_eq_ediv_of_nonneg i (by omega)]; exact q) (.inl (PyProof.noPylong_small (by omega)))
/-- % by a positive divisor of any size -/
theorem op_mod : OpR X (binaryOp .Mod) (rI (fun _ j => 0 < j) fun i j => .int (i % j)) := opI fun i j _ _ _ _ _ hc q => by
  have h1 : (0 : Int) < j := hc
  exact mod_int' (by omega) (by rw [Int.fmod_eq_emod_of_nonneg i (by omega)]; exact q)
theorem op_pow : OpR X (binaryOp .Pow) (rI CPow fun i j => .int (i ^ j.toNat)) := opI fun _ _ _ _ _ _ _ hc q => pow_int_small hc.1 hc.2.1 hc.2.2 q
theorem op_shl : OpR X (binaryOp .LShift) (rI CPow fun i j => .int (i * 2 ^ j.toNat)) := opI fun _ _ _ _ _ _ _ hc q => lshift_int_small hc.1 hc.2.1 hc.2.2 q


theorem unI {f : Value → Sem Value} {g : Int → Int}
    (rule : ∀ (i : Int) (t : Tok) (s : Shared) (Q : Value → Shared → Prop) (E : Value → Shared → Prop), Q (.int (g i) s.toks) { s with toks := s.toks + 1 } → wpAny (model X.prog X.w) X.A (f (.int i t)) Q E s) :
    UnR X f (rU fun i => .int (g i)) := by
  intro pins s σ H x v Q I rx h
  obtain ⟨i, rfl, q⟩ := h
  obtain ⟨t, rfl⟩ := rx
  exact rule i t s _ _ ⟨.int (g i), H, I.tok _, ⟨_, rfl⟩, q⟩
theorem un_neg : UnR X (unaryOp .USub) (rU fun i => .int (-i)) := unI fun _ _ _ _ _ q => neg_int q

/-! ### bools among ints: n += (a < b) -/
end

/-! ### comparisons -/
/-- the scalars that == tells apart as data does -/
noncomputable def scal : V → V → Bool
  | .non, .non => true | .non, .int _ => true | .int _, .non => true | .non, .bl _ => true | .bl _, .non => true | .non, .str _ => true | .str _, .non => true
  | .int _, .int _ => true | .bl _, .bl _ => true | .str _, .str _ => true | .byt _, .byt _ => true
  | .int _, .str _ => true | .str _, .int _ => true | .bl _, .str _ => true | .str _, .bl _ => true
  | _, _ => false
noncomputable def rEq : R2 := fun x y H Q => scal x y = true ∧ Q (.bl (decide (x = y))) H
noncomputable def rNe : R2 := fun x y H Q => scal x y = true ∧ Q (.bl (!decide (x = y))) H

theorem dec_int {i j : Int} : decide (V.int i = V.int j) = (i == j) := by
  rw [Bool.eq_iff_iff]
  simp
theorem dec_bl {i j : Bool} : decide (V.bl i = V.bl j) = (i == j) := by
  rw [Bool.eq_iff_iff]
  simp
theorem dec_str {i j : Str} : decide (V.str i = V.str j) = (i == j) := by
  rw [Bool.eq_iff_iff]
  simp
theorem dec_byt {i j : Array UInt8} : decide (V.byt i = V.byt j) = (i.toList == j.toList) := by
  rw [Bool.eq_iff_iff]
  cases i
  cases j
  simp

section
variable {X : Cx} {a b c : Expr} {ta tb tc : TE} {pos : Pos}
theorem fin_bl {pins : List (Addr × Obj)} {σ : St} {H : Hp} {s : Shared} {Q : VK} {k k' : Bool} (I : Inv X pins σ H s) (q : Q (.bl k) H) (e : k = k') : EP X pins σ Q (.bool k') s := by
  subst e
  exact ⟨.bl k, H, I, rfl, q⟩
theorem op_eq : OpR X (compareOp .Eq) rEq := by
  intro pins s σ H x y v u Q I rx ry h
  obtain ⟨hs, q⟩ := h
  cases x with
  | non =>
    cases rx
    cases y with
    | non => cases ry; exact PySem.EqNone.eq_none_none (fin_bl I q (by simp))
    | bl j => cases ry; exact PySem.EqNone.eq_none_bool (fin_bl I q (by simp))
    | int j => obtain ⟨t', rfl⟩ := ry; exact PySem.EqNone.eq_none_int (fin_bl I q (by simp))
    | str j => obtain ⟨t', rfl⟩ := ry; exact PySem.EqNone.eq_none_str (fin_bl I q (by simp))
    | _ => exact absurd (show false = true from hs) Bool.false_ne_true
  | bl i =>
    cases rx
    cases y with
    | non => cases ry; exact PySem.EqNone.eq_bool_none (fin_bl I q (by simp))
    | bl j => cases ry; exact eq_bool (fin_bl I q dec_bl)
    | str j => obtain ⟨t', rfl⟩ := ry; exact PySem.EqMixed.eq_bool_str (fin_bl I q (by simp))
    | _ => exact absurd (show false = true from hs) Bool.false_ne_true
  | int i =>
    obtain ⟨t, rfl⟩ := rx
    cases y with
    | non => cases ry; exact PySem.EqNone.eq_int_none (fin_bl I q (by simp))
    | int j => obtain ⟨t', rfl⟩ := ry; exact eq_int (fin_bl I q dec_int)
    | str j => obtain ⟨t', rfl⟩ := ry; exact PySem.EqMixed.eq_int_str (fin_bl I q (by simp))
    | _ => exact absurd (show false = true from hs) Bool.false_ne_true
  | str i =>
    obtain ⟨t, rfl⟩ := rx
    cases y with
    | non => cases ry; exact PySem.EqNone.eq_str_none (fin_bl I q (by simp))
    | bl j => cases ry; exact PySem.EqMixed.eq_str_bool (fin_bl I q (by simp))
    | int j => obtain ⟨t', rfl⟩ := ry; exact PySem.EqMixed.eq_str_int (fin_bl I q (by simp))
    | str j => obtain ⟨t', rfl⟩ := ry; exact eq_str (fin_bl I q dec_str)
    | _ => exact absurd (show false = true from hs) Bool.false_ne_true
  | byt i =>
    obtain ⟨t, rfl⟩ := rx
    cases y with
    | byt j => obtain ⟨t', rfl⟩ := ry; exact PySem.W.eq_bytes (fin_bl I q dec_byt)
    | _ => exact absurd (show false = true from hs) Bool.false_ne_true
  | _ => cases y <;> exact absurd (show false = true from hs) Bool.false_ne_true
theorem op_ne : OpR X (compareOp .NotEq) rNe := by
  intro pins s σ H x y v u Q I rx ry h
  obtain ⟨hs, q⟩ := h
  cases x with
  | non =>
    cases rx
    cases y with
    | non => cases ry; exact PySem.EqNone.ne_none_none (fin_bl I q (by simp))
    | bl j => cases ry; exact PySem.EqNone.ne_none_bool (fin_bl I q (by simp))
    | int j => obtain ⟨t', rfl⟩ := ry; exact PySem.EqNone.ne_none_int (fin_bl I q (by simp))
    | str j => obtain ⟨t', rfl⟩ := ry; exact PySem.EqNone.ne_none_str (fin_bl I q (by simp))
    | _ => exact absurd (show false = true from hs) Bool.false_ne_true
  | bl i =>
    cases rx
    cases y with
    | non => cases ry; exact PySem.EqNone.ne_bool_none (fin_bl I q (by simp))
    | bl j => cases ry; exact ne_bool (fin_bl I q (congrArg not dec_bl))
    | str j => obtain ⟨t', rfl⟩ := ry; exact PySem.EqMixed.ne_bool_str (fin_bl I q (by simp))
    | _ => exact absurd (show false = true from hs) Bool.false_ne_true
  | int i =>
    obtain ⟨t, rfl⟩ := rx
    cases y with
    | non => cases ry; exact PySem.EqNone.ne_int_none (fin_bl I q (by simp))
    | int j => obtain ⟨t', rfl⟩ := ry; exact ne_int (fin_bl I q (congrArg not dec_int))
    | str j => obtain ⟨t', rfl⟩ := ry; exact PySem.EqMixed.ne_int_str (fin_bl I q (by simp))
    | _ => exact absurd (show false = true from hs) Bool.false_ne_true
  | str i =>
    obtain ⟨t, rfl⟩ := rx
    cases y with
    | non => cases ry; exact PySem.EqNone.ne_str_none (fin_bl I q (by simp))
    | bl j => cases ry; exact PySem.EqMixed.ne_str_bool (fin_bl I q (by simp))
    | int j => obtain ⟨t', rfl⟩ := ry; exact PySem.EqMixed.ne_str_int (fin_bl I q (by simp))
    | str j => obtain ⟨t', rfl⟩ := ry; exact ne_str (fin_bl I q (congrArg not dec_str))
    | _ => exact absurd (show false = true from hs) Bool.false_ne_true
  | byt i =>
    obtain ⟨t, rfl⟩ := rx
    cases y with
    | byt j => obtain ⟨t', rfl⟩ := ry; exact PySem.W.ne_bytes (fin_bl I q (congrArg not dec_byt))
    | _ => exact absurd (show false = true from hs) Bool.false_ne_true
  | _ => cases y <;> exact absurd (show false = true from hs) Bool.false_ne_true

theorem op_lt : OpR X (compareOp .Lt) (rI0 fun i j => .bl (decide (i < j))) := opB0 fun _ _ _ _ _ _ _ q => lt_int q
theorem op_le : OpR X (compareOp .LtE) (rI0 fun i j => .bl (decide (i ≤ j))) := opB0 fun _ _ _ _ _ _ _ q => le_int q
theorem op_gt : OpR X (compareOp .Gt) (rI0 fun i j => .bl (decide (j < i))) := opB0 fun _ _ _ _ _ _ _ q => gt_int q
theorem op_ge : OpR X (compareOp .GtE) (rI0 fun i j => .bl (decide (j ≤ i))) := opB0 fun _ _ _ _ _ _ _ q => ge_int q
theorem op_lt_str : OpR X (compareOp .Lt) (fun x y H Q => ∃ i j, x = .str i ∧ y = .str j ∧ Q (.bl (decide (i.cps.toList < j.cps.toList))) H) := by
  intro pins s σ H x y v u Q I rx ry h
  obtain ⟨i, j, rfl, rfl, q⟩ := h
  obtain ⟨t, rfl⟩ := rx
  obtain ⟨t', rfl⟩ := ry
  exact lt_str (fin_bl I q rfl)

/-- is None, is not None: the right side a value none -/
theorem op_isN : OpR X (compareOp .Is) (fun x y H Q => y = .non ∧ Q (.bl (decide (x = .non))) H) := by
  intro pins s σ H x y v u Q I rx ry h
  obtain ⟨rfl, q⟩ := h
  cases ry
  refine is_none_gen (fin_bl I q ?_)
  cases x <;> first
    | (cases rx; rfl)
    | (obtain ⟨t, rfl⟩ := rx; rfl)
theorem op_notN : OpR X (compareOp .IsNot) (fun x y H Q => y = .non ∧ Q (.bl (!decide (x = .non))) H) := by
  intro pins s σ H x y v u Q I rx ry h
  obtain ⟨rfl, q⟩ := h
  cases ry
  refine isnot_none_gen (fin_bl I q ?_)
  cases x <;> first
    | (cases rx; rfl)
    | (obtain ⟨t, rfl⟩ := rx; rfl)


/-- two rules for one operation: by cases -/
theorem OpR.or {f : Value → Value → Sem Value} {r r' : R2} (h : OpR X f r) (h' : OpR X f r') : OpR X f (fun x y H Q => r x y H Q ∨ r' x y H Q) := by
  intro pins s σ H x y v u Q I rx ry q
  rcases q with q | q
  · exact h pins s σ H x y v u Q I rx ry q
  · exact h' pins s σ H x y v u Q I rx ry q

theorem nomark (b : Expr) {op : CmpOp} (h : op ≠ .In := by decide) (h2 : op ≠ .NotIn := by decide) : behindInMarks op b = false := by
  have e1 : (op == CmpOp.In) = false := by cases op <;> first | rfl | exact absurd rfl h
  have e2 : (op == CmpOp.NotIn) = false := by cases op <;> first | rfl | exact absurd rfl h2
  cases b <;> simp [behindInMarks, e1, e2]
/-- a comparison as a value; hm: nomark b, or (for in, not in) by with_unfolding_all rfl -/
theorem pe_cmpR {op : CmpOp} {r : R2} (ho : OpR X (compareOp op) r) (ha : PE X a ta) (hb : PE X b tb) (hm : behindInMarks op b = false) : PE X (.Compare a [op] [b] pos) (tOp r ta tb) := by
  intro pins s σ H Q I h
  exact wpAny_Compare1 (binT ha hb I h fun v u s2 x y H2 I2 rx ry q => ho pins s2 σ H2 x y v u Q I2 rx ry q) hm
/-- a reading of a value as a test -/
noncomputable def tTest (t : TE) : TT := fun σ H Q => t σ H fun x H' => ∃ k, x = .bl k ∧ Q k H'
theorem pt_cmpR {op : CmpOp} {r : R2} (ho : OpR X (compareOp op) r) (ha : PE X a ta) (hb : PE X b tb) (hm : behindInMarks op b = false) : PT X (.Compare a [op] [b] pos) (tTest (tOp r ta tb)) := by
  intro pins s σ H Q I h
  refine wpAny_isTrue_Compare1 (thn (ha pins s σ H _ I h) fun v s1 ⟨x, H1, I1, r1, q1⟩ => thn (hb pins s1 σ H1 _ I1 q1) fun u s2 ⟨y, H2, I2, r2, q2⟩ =>
    thn (ho pins s2 σ H2 x y v u _ I2 r1 r2 q2) fun c s3 ⟨z, H3, I3, r3, k, e, q3⟩ => ?_) hm
  subst e
  cases r3
  exact wpAny_truthy_bool ⟨H3, I3, q3⟩
/-- a op1 b op2 c -/
noncomputable def tChain (r r' : R2) (ta tb tc : TE) : TE := fun σ H Q => ta σ H fun x H1 => tb σ H1 fun y H2 => r x y H2 fun z H3 => ∃ k, z = .bl k ∧
  (if k = true then tc σ H3 fun w' H4 => r' y w' H4 Q else Q (.bl false) H3)
theorem pt_chain {op op' : CmpOp} {r r' : R2} (ho : OpR X (compareOp op) r) (ho' : OpR X (compareOp op') r') (ha : PE X a ta) (hb : PE X b tb) (hc : PE X c tc)
    (hm : lastMarks [op, op'] [b, c] = false := by with_unfolding_all rfl) : PT X (.Compare a [op, op'] [b, c] pos) (tTest (tChain r r' ta tb tc)) := by
  intro pins s σ H Q I h
  refine isTrue_chain (thn (ha pins s σ H _ I h) fun v s1 ⟨x, H1, I1, r1, q1⟩ => test_link (thn (hb pins s1 σ H1 _ I1 q1) fun u s2 ⟨y, H2, I2, r2, q2⟩ =>
    thn (ho pins s2 σ H2 x y v u _ I2 r1 r2 q2) fun d s3 ⟨z, H3, I3, r3, k, e, q3⟩ => ?_)) hm
  subst e
  cases r3
  refine wpAny_truthy_bool ?_
  cases k with
  | false =>
    obtain ⟨k', e', q'⟩ := q3
    cases e'
    exact ite_ff ⟨H3, I3, q'⟩
  | true =>
    (refine ite_tt (test_last (thn (hc pins s3 σ H3 _ I3 q3) ?_)); rintro w' s4 ⟨z', H4, I4, r4, q4⟩; refine thn (ho' pins s4 σ H4 y z' u w' _ I4 r2 r4 q4) ?_; rintro d' s5 ⟨z2, H5, I5, r5, k2, e2, q5⟩)
    subst e2
    cases r5
    exact wpAny_truthy_bool ⟨H5, I5, q5⟩

/-! ### truth -/
theorem line63 : (sizeLine : Nat) < 2 ^ 63 := by rw [sizeLine_eq]; decide

/-! ### strs and bytes -/
theorem op_add_str : OpR X (binaryOp .Add) (fun x y H Q => ∃ i j, x = .str i ∧ y = .str j ∧ i.length + j.length ≤ sizeLine ∧ Q (.str (i ++ j)) H) := by
  intro pins s σ H x y v u Q I rx ry h
  obtain ⟨i, j, rfl, rfl, hz, q⟩ := h
  obtain ⟨t, rfl⟩ := rx
  obtain ⟨t', rfl⟩ := ry
  exact add_str (fun t' tk => ⟨.str (i ++ j), H, I.tok _, ⟨_, rfl⟩, q⟩) hz


/-! ### scalar builtins, by CallR -/
theorem vals1 {x : V} {us : List Value} (r : Vals [x] us) : ∃ u, us = [u] ∧ RelV x u := by
  cases r with
  | cons r1 r2 => cases r2; exact ⟨_, rfl, r1⟩
theorem vals2 {x y : V} {us : List Value} (r : Vals [x, y] us) : ∃ u w', us = [u, w'] ∧ RelV x u ∧ RelV y w' := by
  cases r with
  | cons r1 r2 =>
    cases r2 with
    | cons r3 r4 => cases r4; exact ⟨_, _, rfl, r1, r3⟩
theorem call_abs : CallR X (.builtin "abs") (fun xs H Q => ∃ i, xs = [.int i] ∧ Q (.int (if i < 0 then -i else i)) H) := by
  intro pins s σ H xs us Q I r h
  obtain ⟨i, rfl, q⟩ := h
  obtain ⟨u, rfl, t, rfl⟩ := vals1 r
  exact call_abs_int fun u tk => ⟨.int (if i < 0 then -i else i), H, I.tok _, ⟨_, rfl⟩, q⟩
theorem call_max2 (hc : X.calm = true) : CallR X (.builtin "max") (fun xs H Q => ∃ i j, xs = [.int i, .int j] ∧ Q (.int (if j > i then j else i)) H) := by
  intro pins s σ H xs us Q I r h
  obtain ⟨i, j, rfl, q⟩ := h
  obtain ⟨u, w', rfl, ⟨t, rfl⟩, ⟨t', rfl⟩⟩ := vals2 r
  refine max_two_ints (I.ok.hd hc) fun h' tk k => ⟨_, H, I.kept k, ?_, q⟩
  by_cases hj : j > i
  · rw [if_pos hj, if_pos hj]; exact ⟨_, rfl⟩
  · rw [if_neg hj, if_neg hj]; exact ⟨_, rfl⟩
theorem call_min2 (hc : X.calm = true) : CallR X (.builtin "min") (fun xs H Q => ∃ i j, xs = [.int i, .int j] ∧ Q (.int (if j < i then j else i)) H) := by
  intro pins s σ H xs us Q I r h
  obtain ⟨i, j, rfl, q⟩ := h
  obtain ⟨u, w', rfl, ⟨t, rfl⟩, ⟨t', rfl⟩⟩ := vals2 r
  refine min_two_ints (I.ok.hd hc) fun h' tk k => ⟨_, H, I.kept k, ?_, q⟩
  by_cases hj : j < i
  · rw [if_pos hj, if_pos hj]; exact ⟨_, rfl⟩
  · rw [if_neg hj, if_neg hj]; exact ⟨_, rfl⟩
theorem call_int1 : CallR X (.type "int") (fun xs H Q => (∃ i, xs = [.int i] ∧ Q (.int i) H) ∨ ∃ k, xs = [.bl k] ∧ Q (.int (if k then 1 else 0)) H) := by
  intro pins s σ H xs us Q I r h
  rcases h with ⟨i, rfl, q⟩ | ⟨k, rfl, q⟩
  · obtain ⟨u, rfl, t, rfl⟩ := vals1 r
    exact call_int_int ⟨.int i, H, I, ⟨_, rfl⟩, q⟩
  · obtain ⟨u, rfl, r1⟩ := vals1 r
    cases r1
    exact call_int_bool ⟨.int (if k then 1 else 0), H, I.tok _, ⟨_, rfl⟩, q⟩
/-- divmod: a new tuple -/
theorem call_divmod : CallR X (.builtin "divmod") (fun xs H Q => ∃ i j, xs = [.int i, .int j] ∧ CDiv i j ∧ ∀ p, H p = none → Q (.ref p) (upd H p (.tup [.int (i / j), .int (i % j)]))) := by
  intro pins s σ H xs us Q I r h
  obtain ⟨i, j, rfl, ⟨h1, h2⟩, q⟩ := h
  obtain ⟨u, w', rfl, ⟨t, rfl⟩, ⟨t', rfl⟩⟩ := vals2 r
  refine divmod_int (by omega) ?_ (.inl (PyProof.noPylong_small (by omega)))
  rw [Int.fdiv_eq_ediv_of_nonneg i (by omega), Int.fmod_eq_emod_of_nonneg i (by omega)]
  have hn : H s.heap.objs.size = none := I.hok.fresh (Nat.le_refl _)
  refine ⟨.ref s.heap.objs.size, _, ?_, rfl, q _ hn⟩
  refine I.laid (fun b o e => Heap.get?_push_of_some _ e) (Nat.le_refl _) ⟨by simp only [List.length_cons, List.length_nil]; rw [sizeLine_eq]; decide, [.int (i / j) s.toks, .int (i % j) (s.toks + 1)], .cons ⟨_, rfl⟩ (.cons ⟨_, rfl⟩ .nil), ?_⟩
  exact ⟨_, Heap.get?_push_size s.heap rfl, rfl, 0, rfl⟩
end
end L2

namespace L2
open PySem PySem.Spec PyProof.Rows

/-! ### an instance, its attributes a map -/
structure ObjM (h : Heap) (x dx C : Addr) (mA : Str → Option Value) : Prop where
  obj : h.get? x = some (PySem.W.instObj C dx)
  ns : h.Ns1 dx mA
  ne : dx ≠ x

theorem lookIn_ns {h : Heap} {dx : Addr} {mA : Str → Option Value} (n : h.Ns1 dx mA) : ∃ od, h.get? dx = some od ∧ ∀ name, PySem.W.lookIn name od = some (mA name) := by
  obtain ⟨o, es, ep, ho, hd, hk, _, hm⟩ := n
  refine ⟨o, ho, fun name => ?_⟩
  have e := hm name
  unfold nsFind findBy at e
  rw [← Array.find?_toList] at e
  unfold PySem.W.lookIn
  rw [hd]
  dsimp only
  split
  · rename_i y q
    rw [q] at e
    exact congrArg some e
  · rename_i q
    rw [q] at e
    have a : es.toList.any (·.refKey) = false := by
      rw [List.any_eq_false]
      intro y hy
      obtain ⟨z, t, hkey⟩ := hk y (Array.mem_toList_iff.mp hy)
      simp [DictEntry.refKey, hkey]
    have a' : ¬ es.toList.any (·.refKey) = true := by rw [a]; exact Bool.false_ne_true
    rw [if_neg a']
    exact congrArg some e

theorem ObjM.look {h : Heap} {x dx C : Addr} {mA : Str → Option Value} (I : ObjM h x dx C mA) : ∃ od, PySem.W.InstAt h x (PySem.W.instObj C dx) C (some od) ∧ ∀ name, PySem.W.lookIn name od = some (mA name) :=
  let ⟨od, ho, hl⟩ := lookIn_ns I.ns
  ⟨od, ⟨I.obj, rfl, rfl, ho⟩, hl⟩

section
variable {prog : Program} {w : World} {A : Around} {E : Value → Shared → Prop} {s : Shared} {K : PySem.W.Frag} {x dx C f : Addr} {mA : Str → Option Value} {name : Str} {v : Value}



theorem get_meth {pl : Sem Bool} {Q : Value × List Value → Shared → Prop} (X : K.In s.heap) (I : ObjM s.heap x dx C mA) (hg : PySem.W.plainGet K C name = true)
    (hf : PySem.W.findIn K (.ref C) name = some (some (.ref f))) (ht : PySem.W.isFn K (.ref f) = true) (hv : mA name = none) (h : Q (.ref f, [.ref x]) s) :
    wpAny (model prog w) A (getMethod (.ref x) name pl) Q E s := by
  obtain ⟨od, J, hl⟩ := I.look
  exact PySem.W.method_fn X J (PySem.W.plainGet_of hg).1 (PySem.W.plainGet_of hg).2 hf (beq_iff_eq.mp ht) (by show (PySem.W.lookIn name od).map (·.isSome) = some false; rw [hl, hv]; rfl) h


end

/-! ### the attributes as a list of pairs -/

theorem RelO.some_of {v : V} {o : Option Value} (r : RelO (some v) o) : ∃ u, o = some u ∧ RelV v u := by
  cases o with
  | none => exact (show False from r).elim
  | some u => exact ⟨u, rfl, r⟩
theorem RelO.none_of {o : Option Value} (r : RelO none o) : o = none := by
  cases o with
  | none => rfl
  | some u => exact (show False from r).elim

section
variable {P : Program} {w : World} {H H' : Hp} {h h' : Heap} {a C dx : Addr} {fs fs' : List (Str × V)}
theorem ins_get (hok : HOk P w H h) (e : H a = some (.ins C dx fs)) : ∃ mA, ObjM h a dx C mA ∧ (∀ f, RelO (fs.lookup f) (mA f)) ∧ PySem.Within mA (fs.map (·.1)) ∧ fs.length ≤ 1000 ∧ H dx = some (.own a) := by
  obtain ⟨d, z, ne, ob, mA, n, r, q⟩ := (show ObjOk P w H h a (.ins C dx fs) from hok a _ e)
  exact ⟨mA, ⟨ob, n, ne⟩, r, q, z, d⟩
end

/-! ### what of the text a class must have -/
structure Cls (K : PySem.W.Frag) (C : Addr) : Prop where
  pg : PySem.W.plainGet K C Str.empty = true
  hd : PySem.W.hasDictIn K C = true
  po : PySem.W.plainOver K C = true
  sa : PySem.W.findIn K (.ref C) "__setattr__" = some (some (.builtin "object.__setattr__"))
theorem Cls.get {K : PySem.W.Frag} {C : Addr} (c : Cls K C) (f : Str) : PySem.W.plainGet K C f = true := c.pg
/-- a constant of the class -/
structure Con (K : PySem.W.Frag) (C : Addr) (f : Str) (v : V) (u : Value) : Prop where
  at_ : PySem.W.findIn K (.ref C) f = some (some u)
  rel : RelV v u
  get : PySem.W.specialIn K u "__get__" = some none
  cp : PySem.W.copiedNames.contains f = false
/-- a method: a plain def of the class or of one above it -/
structure Meth (K : PySem.W.Frag) (C : Addr) (m : Str) (f : Addr) : Prop where
  at_ : PySem.W.findIn K (.ref C) m = some (some (.ref f))
  fn : PySem.W.isFn K (.ref f) = true
  kp : PySem.W.keepIn K (.ref f) = true

section
variable {X : Cx} {pins : List (Addr × Obj)} {σ : St} {H : Hp} {s : Shared} {a C dx : Addr} {fs : List (Str × V)} {f : Str} {v : V} {A : Around} {E : Value → Shared → Prop}



theorem getmeth_ok {m : Str} {g : Addr} {pl : Sem Bool} {Q : Value × List Value → Shared → Prop} (I : Inv X pins σ H s) (e : H a = some (.ins C dx fs)) (c : Cls X.K C) (k : Meth X.K C m g) (l : fs.lookup m = none)
    (h : Q (.ref g, [.ref a]) s) : wpAny (model X.prog X.w) A (getMethod (.ref a) m pl) Q E s := by
  obtain ⟨mA, O, r, _, _, _⟩ := ins_get I.hok e
  have hn : mA m = none := RelO.none_of (by rw [← l]; exact r m)
  exact get_meth I.kIn O (c.get m) k.at_ k.fn hn h


/-- a new instance, tracked, without attributes -/
theorem Inv.made (I : Inv X pins σ H s) : Inv X pins σ (upd (upd H s.heap.objs.size (.own (s.heap.objs.size + 1))) (s.heap.objs.size + 1) (.ins C s.heap.objs.size []))
    { s with heap := (s.heap.push PySem.W.emptyDict).push (PySem.W.instObj C s.heap.objs.size) } := by
  have e1 : (s.heap.push PySem.W.emptyDict).get? s.heap.objs.size = some PySem.W.emptyDict := Heap.get?_push_size s.heap rfl
  have e2 : ((s.heap.push PySem.W.emptyDict).push (PySem.W.instObj C s.heap.objs.size)).get? (s.heap.objs.size + 1) = some (PySem.W.instObj C s.heap.objs.size) := by
    have := Heap.get?_push_size (s.heap.push PySem.W.emptyDict) (o := PySem.W.instObj C s.heap.objs.size) rfl
    rwa [Heap.size_push] at this
  have e3 : (s.heap.push PySem.W.emptyDict).Ns s.heap.objs.size (fun _ => none) := ⟨PySem.W.emptyDict, #[], _, e1, rfl, (fun e he => absurd he (by simp)), fun _ => rfl⟩
  have I1 := I.laid (a := s.heap.objs.size) (o := .own (s.heap.objs.size + 1)) (h' := s.heap.push PySem.W.emptyDict) (t' := s.toks) (fun b u q => Heap.get?_push_of_some _ q) (Nat.le_refl _) ⟨_, e1⟩
  refine I1.laid (a := s.heap.objs.size + 1) (o := .ins C s.heap.objs.size []) (t' := s.toks) (fun b u q => Heap.get?_push_of_some _ q) (Nat.le_of_eq (Heap.size_push _ _)) ?_
  have ne : s.heap.objs.size ≠ s.heap.objs.size + 1 := Nat.ne_of_lt (Nat.lt_succ_self _)
  refine ⟨by rw [upd_ne ne, upd_same], Nat.zero_le _, ne, e2, fun _ => none, (Heap.Ns1.of_empty e3).at fun o q => Heap.get?_push_of_some _ q, fun _ => True.intro, fun y hy => absurd rfl hy⟩

end

/-! ### readings and rules -/

section
variable {X : Cx} {o e value : Expr} {f : Str} {pos pos' tpos : Pos} {ta tv : TE}

end

/-! ### isinstance -/
section
variable {X : Cx} {pins : List (Addr × Obj)} {σ : St} {H : Hp} {s : Shared} {A : Around} {E : Value → Shared → Prop} {Q : Value → Shared → Prop} {c : Value} {b : Bool}
/-- the type of a value, as the fragment's deciders take it; for an instance its class -/
inductive TyOf (K : PySem.W.Frag) (H : Hp) : V → Value → Prop where
  | non : TyOf K H .non (.type "NoneType")
  | bl (x : Bool) : TyOf K H (.bl x) (.type "bool")
  | int (i : Int) : TyOf K H (.int i) (.type "int")
  | str (x : Str) : TyOf K H (.str x) (.type "str")
  | flt (x : UInt64) : TyOf K H (.flt x) (.type "float")
  | lst {a : Addr} {xs : List V} (e : H a = some (.lst xs)) : TyOf K H (.ref a) (.type "list")
  | frz {a : Addr} {o : Obj} {xs : List V} (e : H a = some (.frz o (.lst xs))) : TyOf K H (.ref a) (.type "list")
  | tup {a : Addr} {xs : List V} (e : H a = some (.tup xs)) : TyOf K H (.ref a) (.type "tuple")
  | dK {a : Addr} {kvs : List (Key × V)} (e : H a = some (.dK kvs)) : TyOf K H (.ref a) (.type "dict")
  | dT {a : Addr} {kvs : List (List Key × V)} (e : H a = some (.dT kvs)) : TyOf K H (.ref a) (.type "dict")
  | ins {a C dx : Addr} {fs : List (Str × V)} (e : H a = some (.ins C dx fs)) (cl : Cls K C) (ha : PySem.W.findIn K (.ref C) "__class__" = some (some (.builtin "object.__class__")))
      (hn : PySem.W.specialIn K (.builtin "object.__class__") "__get__" = some (some (.builtin "getset_descriptor.__get__"))) (htk : PySem.W.takesIn K (.builtin "object.__class__") = some true)
      (hm : PySem.W.mroIn K C (.type "object") = some true) : TyOf K H (.ref a) (.ref C)
/-- isinstance(x, c) for one class c, a built-in or an own one: kitOne's answer -/
theorem isinst_ok {x : V} {u t : Value} (I : Inv X pins σ H s) (rx : RelV x u) (ty : TyOf X.K H x t) (e : PySem.W.kitOne X.K t c = some b) (h : ∀ tk, Q (.bool b) { s with toks := tk }) :
    wpAny (model X.prog X.w) A (call (.builtin "isinstance") [u, c]) Q E s := by
  cases ty with
  | non => cases (show u = Value.none from rx); exact PySem.W.kia_one PySem.W.kitx_none I.kIn True.intro e (fun z => nomatch z) h
  | bl y => cases (show u = Value.bool y from rx); exact PySem.W.kia_one PySem.W.kitx_bool I.kIn True.intro e (fun z => nomatch z) h
  | int i => obtain ⟨t, q⟩ := (show ∃ t, u = Value.int i t from rx); cases q; exact PySem.W.kia_one PySem.W.kitx_int I.kIn True.intro e (fun z => nomatch z) h
  | str y => obtain ⟨t, q⟩ := (show ∃ t, u = Value.str y t from rx); cases q; exact PySem.W.kia_one PySem.W.kitx_str I.kIn True.intro e (fun z => nomatch z) h
  | flt y => obtain ⟨t, q⟩ := (show ∃ t, u = Value.float y t from rx); cases q; exact PySem.W.kia_one PySem.W.kitx_float I.kIn True.intro e (fun z => nomatch z) h
  | @lst a xs ea =>
    cases (show u = Value.ref a from rx)
    obtain ⟨_, _, n, _, h1⟩ := (show ObjOk X.prog X.w H s.heap a (.lst xs) from I.hok a _ ea)
    exact PySem.W.kia_one PySem.W.kitx_list I.kIn ⟨_, h1, rfl⟩ e (fun z => nomatch z) h
  | @frz a ob xs ea =>
    cases (show u = Value.ref a from rx)
    obtain ⟨_, _, _, n, _, h1⟩ := (show ObjOk X.prog X.w H s.heap a (.frz ob (.lst xs)) from I.hok a _ ea)
    exact PySem.W.kia_one PySem.W.kitx_list I.kIn ⟨_, h1, rfl⟩ e (fun z => nomatch z) h
  | @tup a xs ea =>
    cases (show u = Value.ref a from rx)
    obtain ⟨_, _, _, p⟩ := (show ObjOk X.prog X.w H s.heap a (.tup xs) from I.hok a _ ea)
    obtain ⟨o, h1, h2, _⟩ := p
    exact PySem.W.kia_one PySem.W.kitx_tuple I.kIn ⟨o, h1, h2⟩ e (fun z => nomatch z) h
  | @dK a kvs ea =>
    cases (show u = Value.ref a from rx)
    obtain ⟨_, _, vs, _, p⟩ := (show ObjOk X.prog X.w H s.heap a (.dK kvs) from I.hok a _ ea)
    obtain ⟨o, es, ep, h1, h2, _⟩ := p
    exact PySem.W.kia_one PySem.W.kitx_dict I.kIn ⟨o, h1, h2.1⟩ e (fun z => nomatch z) h
  | @dT a kvs ea =>
    cases (show u = Value.ref a from rx)
    obtain ⟨_, _, xs, _, o, es, ep, h1, h2, _⟩ := (show ObjOk X.prog X.w H s.heap a (.dT kvs) from I.hok a _ ea)
    exact PySem.W.kia_one PySem.W.kitx_dict I.kIn ⟨o, h1, h2.1⟩ e (fun z => nomatch z) h
  | @ins a C dx fs ea cl ha hn htk hm =>
    cases (show u = Value.ref a from rx)
    obtain ⟨mA, O, _⟩ := ins_get I.hok ea
    obtain ⟨od, J, _⟩ := O.look
    exact PySem.W.kia_one (PySem.W.kitx_own (cl.get _) cl.hd ha hn htk hm) I.kIn J e (fun z => nomatch z) h
end
end L2

namespace L2
open PySem PySem.Spec PyProof.Rows

/-! ### room -/
structure Room (k : Nat) (A : Around) : Prop where
  hd : A.handled = none
  dp : A.depth + 3 * k + 5 < recursionLimit
  un : A.units + 16 * k + 200 < cLine
theorem Room.mono {j k : Nat} {A : Around} (r : Room k A) (h : j ≤ k) : Room j A := ⟨r.hd, by have := r.dp; omega, by have := r.un; omega⟩
theorem Room.deeper {k : Nat} {A : Around} (r : Room (k + 1) A) (env : Env) : Room k (A.deeper env) :=
  ⟨r.hd, by have := r.dp; show A.depth + 1 + 3 * k + 5 < _; omega, by have := r.un; show A.units + 3 + 16 * k + 200 < _; omega⟩
theorem Room.depth {k : Nat} {A : Around} (r : Room k A) : A.depth < recursionLimit := by have := r.dp; omega
theorem Room.units {k : Nat} {A : Around} (r : Room k A) : A.units + 64 < cLine := by have := r.un; omega

/-! ### argument lists and displays -/
noncomputable def tNil : TA := fun _ H Q => Q [] H
noncomputable def tCons (ta : TE) (tr : TA) : TA := fun σ H Q => ta σ H fun x H1 => tr σ H1 fun xs H2 => Q (x :: xs) H2
section
variable {X : Cx} {e : Expr} {es : List Expr} {te : TE} {t : TA} {pos : Pos}
theorem pa_nil : PA X [] tNil := fun _ _ _ _ H Q I h => Calls.spliced_nil ⟨[], H, I, .nil, h⟩
theorem pa_cons (ha : PE X e te) (hr : PA X es t) (hs : starEach (e :: es) X.env = (false, eval e X.env) :: starEach es X.env := by rfl) : PA X (e :: es) (tCons te t) := by
  intro pos pins s σ H Q I h
  rw [hs]
  show wpAny _ _ (spliced ((false, eval e X.env) :: backTo pos (starEach es X.env))) _ _ s
  (refine Calls.spliced_cons (thn (ha pins s σ H _ I h) ?_); rintro u s1 ⟨x, H1, I1, r1, q1⟩)
  (refine thn (hr pos pins s1 σ H1 _ I1 q1) ?_; rintro us s2 ⟨xs, H2, I2, r2, q2⟩; exact ⟨x :: xs, H2, I2, .cons r1 r2, q2⟩)

/-- a tuple, a list of written items -/
noncomputable def tTup (t : TA) : TE := fun σ H Q => t σ H fun xs H1 => xs.length ≤ sizeLine ∧ ∀ p, H1 p = none → Q (.ref p) (upd H1 p (.tup xs))
noncomputable def tLst (t : TA) : TE := fun σ H Q => t σ H fun xs H1 => xs.length ≤ sizeLine ∧ ∀ p, H1 p = none → Q (.ref p) (upd H1 p (.lst xs))
theorem pe_tup {x1} (h : PA X es t) : PE X (.Tuple es x1 pos) (tTup t) := by
  intro pins s σ H Q I hq
  refine wpAny_Tuple_spliced (thn (h pos pins s σ H _ I hq) fun us s1 ⟨xs, H1, I1, r, z, q⟩ => ⟨by rw [← r.length]; exact z, ?_⟩)
  have hf : H1 s1.heap.objs.size = none := I1.hok.fresh (Nat.le_refl _)
  refine ⟨.ref s1.heap.objs.size, upd H1 s1.heap.objs.size (.tup xs), I1.laid (t' := s1.toks) (fun b u e => Heap.get?_push_of_some _ e) (Nat.le_refl _) ?_, rfl, q _ hf⟩
  exact ⟨z, us, r, ⟨_, Heap.get?_push_size _ rfl, rfl, _, rfl⟩⟩
theorem pe_lst (h : PA X es t) : PE X (.List es pos) (tLst t) := by
  intro pins s σ H Q I hq
  refine wpAny_List_spliced (thn (h pos pins s σ H _ I hq) fun us s1 ⟨xs, H1, I1, r, z, q⟩ => ⟨by rw [← r.length]; exact z, ?_⟩)
  have hf : H1 s1.heap.objs.size = none := I1.hok.fresh (Nat.le_refl _)
  refine ⟨.ref s1.heap.objs.size, upd H1 s1.heap.objs.size (.lst xs), I1.laid (t' := s1.toks) (fun b u e => Heap.get?_push_of_some _ e) (Nat.le_refl _) ?_, rfl, q _ hf⟩
  exact ⟨z, us, 0, r, Heap.get?_push_size _ rfl⟩
end

/-! ### what a def promises -/
/-- a def's promise: the bound arguments in the parameters' order, the heap, the wanted end, the wanted exception -/
noncomputable abbrev Sp := List V → Hp → VK → XK → Prop
/-- how an exception lies behind a call (file 08 gives it): the callers' frames, abstract heap and state ahead of the call, the wish, the exception, the state -/
noncomputable abbrev CXT := List Env → Hp → Shared → XK → Value → Shared → Prop

/-- the state at a call -/
structure Env0 (P : Program) (w : World) (K : PySem.W.Frag) (mg : Str → Option Value) (base : Heap) (A : Around) (outer : List Env) (s : Shared) (H : Hp) : Prop where
  frames : A.frames = some outer
  mod : Mod K mg base
  bs : ∀ b o, base.get? b = some o → s.heap.get? b = some o ∧ H b = none
  bsz : base.objs.size ≤ s.heap.objs.size
  funs : s.heap.FunFrames base outer
  frf : ∀ b ∈ frs outer, H b = none
  hok : HOk P w H s.heap
  bare : AllBare s.gens
/-- a call's end -/
noncomputable def CE (outer : List Env) (P : Program) (w : World) (H : Hp) (s : Shared) (Q : VK) (u : Value) (s' : Shared) : Prop :=
  ∃ v H', s'.os = s.os ∧ AllBare s'.gens ∧ Un (frs outer) [] H H' s.heap s'.heap ∧ HOk P w H' s'.heap ∧ RelV v u ∧ Q v H'
noncomputable def CR (CX : CXT) (outer : List Env) (P : Program) (w : World) (H : Hp) (s : Shared) (Q : VK) (E : XK) (r : Result) (s' : Shared) : Prop :=
  match r with
  | .ok (.ret u) => CE outer P w H s Q u s'
  | .ok _ => False
  | .error e => CX outer H s E e s'
structure FnOk (P : Program) (w : World) (K : PySem.W.Frag) (mg : Str → Option Value) (base : Heap) (CX : CXT) (k : Nat) (f : Addr) (fd : FuncData) (ps : List Str) (sp : Sp) : Prop where
  len : ∀ vs H Q E, sp vs H Q E → vs.length = ps.length
  run : ∀ (A : Around) (outer : List Env) (s : Shared) (H : Hp) (args : Args) (us : List Value) (vs : List V) (Q : VK) (E : XK), Room k A → Env0 P w K mg base A outer s H → BindsTo s fd args (ps.zip us) → Vals vs us → sp vs H Q E →
    codeAny (model P w) A (.call (.ref f) args) (CR CX outer P w H s Q E) s
theorem FnOk.mono {P : Program} {w : World} {K : PySem.W.Frag} {mg : Str → Option Value} {base : Heap} {CX : CXT} {j k : Nat} {f : Addr} {fd : FuncData} {ps : List Str} {sp : Sp} (F : FnOk P w K mg base CX j f fd ps sp) (h : j ≤ k) :
    FnOk P w K mg base CX k f fd ps sp := ⟨F.len, fun A outer s H args us vs Q E hr => F.run A outer s H args us vs Q E (hr.mono h)⟩


section
variable {X : Cx} {pins : List (Addr × Obj)} {σ : St} {H : Hp} {s s' : Shared}
/-- from a body: what a callee wants -/
theorem Inv.env0 (I : Inv X pins σ H s) : Env0 X.prog X.w X.K X.mg X.base X.A X.stack s H :=
  ⟨I.ok.frames, I.ok.mod, I.bs, Nat.le_trans I.ok.bsz I.sz, I.stack, I.stkFree, I.hok, I.bare⟩
/-- behind a call -/
theorem Inv.after {Q : VK} {u : Value} (I : Inv X pins σ H s) (h : CE X.stack X.prog X.w H s Q u s') : EP X pins σ Q u s' := by
  obtain ⟨v, H', os, bare, un, hok, r, q⟩ := h
  obtain ⟨hh, g, d, t, os'⟩ := s'
  obtain rfl : os' = s.os := os
  exact ⟨v, H', I.call (h' := hh) (g' := g) (d' := d) (t' := t) (ch := []) un hok bare (fun b z => absurd z (by simp)), r, q⟩
end

/-! ### calls -/
/-- f(..): the written arguments, then the defaults dvs; E: what is wanted of an exception -/
noncomputable def tCall (sp : Sp) (dvs : List V) (E : XK) (t : TA) : TE := fun σ H Q => t σ H fun vs H1 => sp (vs ++ dvs) H1 Q E
/-- o.m(..) of an instance of the class at C -/
noncomputable def tMeth (C : Addr) (m : Str) (sp : Sp) (dvs : List V) (E : XK) (ta : TE) (t : TA) : TE := fun σ H Q => ta σ H fun x H1 => ∃ a dx fs, x = .ref a ∧ H1 a = some (.ins C dx fs) ∧ fs.lookup m = none ∧
  t σ H1 fun vs H2 => sp (x :: (vs ++ dvs)) H2 Q E

/-- how the parameters are bound: us the positional arguments, kw the keywords' values by name, ds the defaults that fill up -/
noncomputable def Binds (K : PySem.W.Frag) (fd : FuncData) (ps : List Str) (ds : List Value) : Prop :=
  ∀ (s : Shared) (us : List Value), K.In s.heap → (us ++ ds).length = ps.length → BindsTo s fd ⟨us, []⟩ (ps.zip (us ++ ds))
/-- every parameter is given -/
theorem Binds.all {K : PySem.W.Frag} {fd : FuncData} {ps : List Str} (h : ∀ us : List Value, us.length = ps.length → bindArgs fd ⟨us, []⟩ = pure (ps.zip us)) : Binds K fd ps [] := fun s us _ hl => by
  rw [List.append_nil] at hl ⊢
  exact .of_eq (h us hl)

/-- an exception of a callee reaches what this body wants of exceptions -/
noncomputable def Passes (CX : CXT) (X : Cx) (E : XK) : Prop := ∀ (pins : List (Addr × Obj)) (σ : St) (H : Hp) (s : Shared) (e : Value) (s' : Shared), Inv X pins σ H s → CX X.stack H s E e s' → X.xe e s'

section
variable {X : Cx} {CX : CXT} {k : Nat} {f C : Addr} {fd : FuncData} {ps : List Str} {sp : Sp} {dvs : List V} {ds : List Value} {E : XK} {x m : Str} {p pos apos : Pos} {e o : Expr} {es : List Expr} {ta : TE} {t : TA}

/-- the callee runs -/
theorem run_fn {pins : List (Addr × Obj)} {σ : St} {H : Hp} {s : Shared} {Q : VK} {us : List Value} {vs : List V} (F : FnOk X.prog X.w X.K X.mg X.base CX k f fd ps sp) (hr : Room k X.A) (hb : Binds X.K fd ps ds) (hd : Vals dvs ds) (hx : Passes CX X E)
    (I : Inv X pins σ H s) (r : Vals vs us) (h : sp (vs ++ dvs) H Q E) : wpAny (model X.prog X.w) X.A (call (.ref f) us) (EP X pins σ Q) X.xe s := by
  have r2 : Vals (vs ++ dvs) (us ++ ds) := r.append hd
  have hl : (us ++ ds).length = ps.length := by rw [← r2.length]; exact F.len _ _ _ _ h
  refine wpAny_call (codeAny_mono (F.run X.A X.stack s H ⟨us, []⟩ (us ++ ds) (vs ++ dvs) Q E hr I.env0 (hb s us I.kIn hl) r2 h) fun r s' hq => ?_)
  cases r with
  | error e => exact hx pins σ H s e s' I hq
  | ok fl =>
    cases fl with
    | ret u => exact I.after hq
    | next => exact False.elim hq
    | brk => exact False.elim hq
    | cont => exact False.elim hq

theorem pe_call (F : FnOk X.prog X.w X.K X.mg X.base CX k f fd ps sp) (hr : Room k X.A) (hg : Gl X x) (hm : X.mg x = some (.ref f)) (hk : PySem.W.keepIn X.K (.ref f) = true) (hb : Binds X.K fd ps ds) (hd : Vals dvs ds) (hx : Passes CX X E)
    (ha : PA X (e :: es) t) (hdb : (x == ("__debug__" : Str)) = false := by decide) (he : starEach (e :: es) X.env = (false, eval e X.env) :: starEach es X.env := by rfl) (hpl : (backTo pos (starEach es X.env)).any (·.1) = false := by rfl) :
    PE X (.Call (.Name x p) (e :: es) [] pos) (tCall sp dvs E t) := by
  intro pins s σ H Q I h
  refine wpAny_Call_Name_kw (ld_glob I hg hm ?_ hdb)
  (refine PySem.W.callWith_K (h₀ := X.base) I.ok.mod.kin hk (thn (ha pos pins s σ H _ I h) ?_) he hpl; rintro us s1 ⟨vs, H1, I1, r, q⟩; refine ⟨I1.kIn, ?_⟩)
  exact run_fn F hr hb hd hx I1 r q

/-- o.m(e, ..) -/
theorem pe_meth {pl : Sem Bool} (he : PE X o ta) (c : Cls X.K C) (hm : Meth X.K C m f) (F : FnOk X.prog X.w X.K X.mg X.base CX k f fd ps sp) (hr : Room k X.A) (hb : Binds X.K fd ps ds) (hd : Vals dvs ds) (hx : Passes CX X E) (ha : PA X (e :: es) t)
    (hst : starEach (e :: es) X.env = (false, eval e X.env) :: starEach es X.env := by rfl) (hpl : (backTo pos (starEach es X.env)).any (·.1) = false := by rfl)
    (ht : eval (.Call (.Attribute o m apos) (e :: es) [] pos) X.env = (do
      let ov ← eval o X.env
      standAt apos.atName
      let (f, first) ← holding [ov] (getMethod ov m pl)
      callWith pos f first (backTo pos (starEach (e :: es) X.env)) (backToKw pos (keywordEach [] X.env))) := by rfl) :
    PE X (.Call (.Attribute o m apos) (e :: es) [] pos) (tMeth C m sp dvs E ta t) := by
  intro pins s σ H Q I h
  (refine PySem.W.methodCall_KW (pl := pl) (thn (he pins s σ H _ I h) ?_) ht; rintro u s1 ⟨x, H1, I1, rx, a, dx, fs, ex, ea, l, q⟩)
  subst ex
  obtain rfl : u = Value.ref a := rx
  refine getmeth_ok I1 ea c hm l ?_
  (refine PySem.W.callWith_K (first := [.ref a]) (h₀ := X.base) I.ok.mod.kin hm.kp (thn (ha pos pins s1 σ H1 _ I1 q) ?_) hst hpl; rintro us s2 ⟨vs, H2, I2, r, q2⟩; refine ⟨I2.kIn, ?_⟩)
  exact run_fn (us := .ref a :: us) (vs := .ref a :: vs) F hr hb hd hx I2 (.cons rfl r) q2

/-- what a class must have to be made -/
structure Mk (K : PySem.W.Frag) (C f : Addr) : Prop where
  makes : PySem.W.makesIn K C = true
  init : PySem.W.findIn K (.ref C) "__init__" = some (some (.ref f))
  fn : PySem.W.isFn K (.ref f) = true
  kp : PySem.W.keepIn K (.ref C) = true

end

/-! ### keywords -/
section
variable {X : Cx} {CX : CXT} {k : Nat} {f C : Addr} {fd : FuncData} {ps ks : List Str} {sp : Sp} {E : XK} {x m : Str} {p pos apos kpos : Pos} {e o : Expr} {es : List Expr} {kws : List Keyword} {te ta : TE} {t tk : TA} {nm : Option Str}

/-- how a call with keywords binds: g puts the positional values us and the keywords' values ws (names ks) in the parameters' order, defaults among them -/
structure KBinds (K : PySem.W.Frag) (fd : FuncData) (ps ks : List Str) (g : List Value → List Value → List Value) (gV : List V → List V → List V) : Prop where
  to : ∀ (s : Shared) (us ws : List Value), K.In s.heap → (g us ws).length = ps.length → BindsTo s fd ⟨us, ks.zip ws⟩ (ps.zip (g us ws))
  rel : ∀ {vs : List V} {us : List Value} {zs : List V} {ws : List Value}, Vals vs us → Vals zs ws → Vals (gV vs zs) (g us ws)
variable {g : List Value → List Value → List Value} {gV : List V → List V → List V}
end

/-! ### a def's body keeps its promise -/
/-- names: the parameters first -/
structure FnScope (N P : List Str) (sc : Scope) : Prop where
  kind : sc.kind = .function
  co : sc.isCoroutine = false
  gen : sc.isGenerator = false
  nd : N.Nodup
  pre : N.take P.length = P
  par : ∀ x ∈ P, sc.names.lookup x = some .local ∨ sc.names.lookup x = some .cell
  nofree : ∀ y ∈ sc.names, y.2 ≠ .free

theorem bindL_out {kindOf : Str → Option NameKind} {x : Str} : ∀ {binds : List (Str × Value)} {m : Str → Option Value}, (∀ v, (x, v) ∉ binds) → bindL kindOf binds m x = m x
  | [], _, _ => rfl
  | (n, v) :: r, m, h => by
    unfold bindL
    rw [bindL_out fun w hw => h w (List.mem_cons_of_mem _ hw)]
    split
    · have : x ≠ n := by rintro rfl; exact h v List.mem_cons_self
      simp [this]
    · rfl
theorem bindC_out {kindOf : Str → Option NameKind} {x : Str} : ∀ {binds : List (Str × Value)} {m : Str → Option Value}, (∀ v, (x, v) ∉ binds) → bindC kindOf binds m x = m x
  | [], _, _ => rfl
  | (n, v) :: r, m, h => by
    unfold bindC
    rw [bindC_out fun w hw => h w (List.mem_cons_of_mem _ hw)]
    split
    · rfl
    · have : x ≠ n := by rintro rfl; exact h v List.mem_cons_self
      simp [this]
theorem bindL_get {kindOf : Str → Option NameKind} {x : Str} {v : Value} : ∀ {P : List Str} {vs : List Value} {i : Nat} {m : Str → Option Value}, P.Nodup → P[i]? = some x → vs[i]? = some v → kindOf x = some .local →
    bindL kindOf (P.zip vs) m x = some v
  | [], _, _, _, _, h, _, _ => by simp at h
  | _ :: _, [], _, _, _, _, h, _ => by simp at h
  | p :: P, w :: vs, 0, m, nd, h1, h2, hk => by
    simp at h1 h2; subst h1; subst h2
    show bindL kindOf ((p, w) :: P.zip vs) m p = _
    unfold bindL
    rw [bindL_out fun v hv => (List.nodup_cons.mp nd).1 (List.of_mem_zip hv).1, if_pos hk]
    simp
  | p :: P, w :: vs, i + 1, m, nd, h1, h2, hk => by
    show bindL kindOf ((p, w) :: P.zip vs) m x = _
    unfold bindL
    exact bindL_get (i := i) (List.nodup_cons.mp nd).2 (by simpa using h1) (by simpa using h2) hk
theorem bindC_get {kindOf : Str → Option NameKind} {x : Str} {v : Value} : ∀ {P : List Str} {vs : List Value} {i : Nat} {m : Str → Option Value}, P.Nodup → P[i]? = some x → vs[i]? = some v → kindOf x ≠ some .local →
    bindC kindOf (P.zip vs) m x = some v
  | [], _, _, _, _, h, _, _ => by simp at h
  | _ :: _, [], _, _, _, _, h, _ => by simp at h
  | p :: P, w :: vs, 0, m, nd, h1, h2, hk => by
    simp at h1 h2; subst h1; subst h2
    show bindC kindOf ((p, w) :: P.zip vs) m p = _
    unfold bindC
    rw [bindC_out fun v hv => (List.nodup_cons.mp nd).1 (List.of_mem_zip hv).1, if_neg hk]
    simp
  | p :: P, w :: vs, i + 1, m, nd, h1, h2, hk => by
    show bindC kindOf ((p, w) :: P.zip vs) m x = _
    unfold bindC
    exact bindC_get (i := i) (List.nodup_cons.mp nd).2 (by simpa using h1) (by simpa using h2) hk

/-- the names' values at the entry -/
noncomputable def start (N : List Str) (vs : List V) : St := vs.map some ++ List.replicate (N.length - vs.length) none

/-- the context of a def's body, at its entry; an exception leaves the frame, then lies as CX says -/
noncomputable def cxOf (CX : CXT) (P : Program) (w : World) (K : PySem.W.Frag) (mg : Str → Option Value) (base : Heap) (N : List Str) (qual : Str) (scope : Scope) (f : Addr) (cd : Value) (A : Around) (outer : List Env) (s : Shared) (H : Hp) (E : XK) : Cx where
  prog := P
  w := w
  K := K
  mg := mg
  base := base
  A := A.deeper (envOfC qual scope s.heap.objs.size f cd)
  N := N
  s₀ := s
  H₀ := H
  env := envOfC qual scope s.heap.objs.size f cd
  outer := outer
  stack := envOfC qual scope s.heap.objs.size f cd :: outer
  ex := []
  calm := true
  fn := fun _ => true
  pn := []
  xe := fun e s' => wpAny (model P w) (A.deeper (envOfC qual scope s.heap.objs.size f cd)) (leaving (envOfC qual scope s.heap.objs.size f cd) e) (fun _ s'' => CX outer H s E e s'') (fun e' s'' => CX outer H s E e' s'') s'

theorem cell_has {sc : Scope} {n : Nat} {x : Str} (h : sc.names.lookup x = some .cell) : ∃ c, (cellsFrom n sc.names []).lookup x = some c := by
  have q := PySem.W.cellsFrom_some sc.names n [] (.inl h)
  exact Option.isSome_iff_exists.mp q

theorem inv_start {CX : CXT} {P : Program} {w : World} {K : PySem.W.Frag} {mg : Str → Option Value} {base : Heap} {N ps : List Str} {qual : Str} {scope : Scope} {f : Addr} {cd : Value} {A : Around} {outer : List Env} {s s1 : Shared} {H : Hp} {E : XK} {us : List Value} {vs : List V}
    (S : FnScope N ps scope) (hd : A.handled = none) (e0 : Env0 P w K mg base A outer s H) (hl : vs.length = ps.length) (r : Vals vs us)
    (x : InCallC s s.heap.objs.size (bindL (envOfC qual scope s.heap.objs.size f cd).kindOf (ps.zip us) fun _ => none) (cellsFrom (s.heap.objs.size + 1) scope.names []) (bindC (envOfC qual scope s.heap.objs.size f cd).kindOf (ps.zip us) fun _ => none) s1) :
    Inv (cxOf CX P w K mg base N qual scope f cd A outer s H E) [] (start N vs) H s1 := by
  have hpl : ps.length ≤ N.length := by have := congrArg List.length S.pre; rw [List.length_take] at this; omega
  obtain ⟨h1, tk, rfl, hk⟩ := x.done
  have noA : ∀ b : Addr, b ∉ (cxOf CX P w K mg base N qual scope f cd A outer s H E).ex := fun b z => absurd (show b ∈ ([] : List Addr) from z) (by simp)
  refine ⟨⟨e0.mod, S.kind, rfl, rfl, Nat.le_refl _, fun y z c h1 h2 => ?_, fun y hy => ?_, fun y c _ h => ?_, fun _ => hd, Around.frames_deeper e0.frames, .inr ⟨rfl, rfl⟩, fun b z => absurd z (noA b), e0.bs, e0.bsz, fun b _ _ => noA b, fun b z => absurd z (noA b), e0.funs, e0.frf⟩,
    rfl, e0.bare, Un.kept hk, ⟨_, x.toInCall.ns, fun i y v h1 h2 h3 => ?_⟩, fun y c h => ⟨_, x.cell y c h⟩, e0.hok.fresh (Nat.le_refl _), fun y c h => ?_, fun p hp => absurd (show p ∈ ([] : List (Addr × Obj)) from hp) (by simp), e0.hok.kept hk, ?_⟩
  · exact name_of_addr x.apart (PySem.mem_of_lookup h1) (PySem.mem_of_lookup h2)
  · have hy : scope.names.lookup y = some .cell ∨ scope.names.lookup y = some .free := hy
    rcases hy with hy | hy
    · exact cell_has hy
    · exact absurd rfl (S.nofree _ (PySem.mem_of_lookup hy))
  · exact Nat.le_of_lt (x.above y c (PySem.mem_of_lookup h))
  · have hi : i < vs.length := by
      unfold start at h2
      by_cases hi : i < vs.length
      · exact hi
      · rw [List.getElem?_append_right (by simpa using hi)] at h2
        rw [List.getElem?_replicate] at h2
        split at h2 <;> cases h2
    have ha : vs[i]? = some v := by
      unfold start at h2
      rw [List.getElem?_append_left (by simpa using hi), List.getElem?_map] at h2
      cases e : vs[i]? with
      | none => rw [e] at h2; cases h2
      | some a => rw [e] at h2; cases h2; rfl
    obtain ⟨u, hu, rv⟩ := r.get ha
    have hp : ps[i]? = some y := by
      rw [← S.pre, List.getElem?_take_of_lt (by omega)]; exact h1
    have ndP : ps.Nodup := by rw [← S.pre]; exact S.nd.sublist (List.take_sublist _ _)
    refine ⟨u, rv, ?_⟩
    rcases S.par y (List.mem_of_getElem? hp) with k | k
    · exact .inl ⟨k, bindL_get ndP hp hu k⟩
    · obtain ⟨c, e⟩ := cell_has (n := s.heap.objs.size + 1) k
      refine .inr ⟨.inl k, c, e, ?_⟩
      have q := x.cell y c e
      rw [bindC_get ndP hp hu (by show scope.names.lookup y ≠ _; rw [k]; decide)] at q
      exact q
  · exact e0.hok.fresh (Nat.le_of_lt (x.above y c (PySem.mem_of_lookup h)))
  · unfold start
    show _ = N.length
    rw [List.length_append, List.length_map, List.length_replicate]
    omega

/-- THE RULE: a def (or a method) of the text, by its body. The body's reading t is chosen for each entry; it is run at the parameters' values -/
theorem fn_of {CX : CXT} {P : Program} {w : World} {K : PySem.W.Frag} {mg : Str → Option Value} {base : Heap} {k : Nat} {f : Addr} {name qual : Str} {params : Arguments} {body : List Stmt} {scope : Scope} {dV kV doc pm cdv ct oc : Value} {an od : Option Addr}
    {osl : Array (Option Value)} {N ps : List Str} {sp : Sp} (lk : K.lookup f = some ⟨oc, od, .func (PySem.W.fnOf name qual params body scope dV kV doc pm an cdv ct), osl⟩) (hcd : PySem.W.codeIn K cdv qual = true) (S : FnScope N ps scope)
    (len : ∀ vs H Q E, sp vs H Q E → vs.length = ps.length)
    (hbody : ∀ (A : Around) (outer : List Env) (s : Shared) (H : Hp) (vs : List V) (Q : VK) (E : XK), Room k (A.deeper (envOfC qual scope s.heap.objs.size f cdv)) → sp vs H Q E →
      ∃ t, PSs (cxOf CX P w K mg base N qual scope f cdv A outer s H E) body t ∧ t { nx := fun _ H' => Q .non H', rt := Q } (start N vs) H) :
    FnOk P w K mg base CX (k + 1) f (PySem.W.fnOf name qual params body scope dV kV doc pm an cdv ct) ps sp := by
  refine ⟨len, fun A outer s H args us vs Q E hr e0 hb r hsp => ?_⟩
  have hl := len _ _ _ _ hsp
  have KX : K.In s.heap := e0.mod.kin.keeps fun b o e => (e0.bs b o e).1
  have lim : s.heap.NoLimit := e0.mod.nolimit.keeps fun b o e => (e0.bs b o e).1
  have hkind : ∀ y ∈ ps.zip us, scope.names.lookup y.1 = some .local ∨ (scope.names.lookup y.1 = some .cell ∧ ((cellsFrom (s.heap.objs.size + 1) scope.names []).lookup y.1).isSome = true) := fun ⟨n, v⟩ hy => by
    rcases S.par n (List.of_mem_zip hy).1 with q | q
    · exact .inl q
    · exact .inr ⟨q, PySem.W.cellsFrom_some _ _ _ (.inl q)⟩
  refine codeAny_call_function hr.depth (KX _ _ lk) rfl S.co S.gen rfl (PySem.W.codeRec_of KX hcd) (hb _ _ _ _ ?_)
  refine wpAny_newFunctionEnv_cells S.kind hkind fun env he s1 x => ?_
  subst he
  refine ⟨lim.keeps x.toInCall.keep, codeAny_func ?_⟩
  obtain ⟨t, ht, hq⟩ := hbody A outer s H vs Q E (hr.deeper _) hsp
  have I : Inv (cxOf CX P w K mg base N qual scope f cdv A outer s H E) [] (start N vs) H s1 := inv_start S hr.hd e0 hl r x
  refine wpAny_mono (ht [] s1 (start N vs) H _ I hq) (fun fl s' hs => ?_) fun e s' hs => hs
  have fin : ∀ {σ' : St} {H' : Hp} {v : V} {u : Value}, Inv (cxOf CX P w K mg base N qual scope f cdv A outer s H E) [] σ' H' s' → RelV v u → Q v H' → CE outer P w H s Q u s' :=
    fun {σ' H' v u} J rv q => ⟨v, H', J.os, J.bare, J.base, J.hok, rv, q⟩
  cases fl with
  | ret u =>
    obtain ⟨v, σ', H', J, rv, q⟩ := hs
    exact fin J rv q
  | next =>
    obtain ⟨σ', H', J, q⟩ := hs
    exact fin (v := V.non) (u := Value.none) J rfl q
  | brk =>
    obtain ⟨_, _, _, q⟩ := hs
    exact False.elim q
  | cont =>
    obtain ⟨_, _, _, q⟩ := hs
    exact False.elim q
end L2

namespace L2
open PySem PySem.Spec PyProof.Rows
section
variable {X : Cx} {x : Str} {p pos : Pos} {e : Expr} {es : List Expr} {t : TA} {id T : String} {r : List V → Hp → VK → Prop}

noncomputable def tCB (r : List V → Hp → VK → Prop) (t : TA) : TE := fun σ H Q => t σ H fun vs H1 => r vs H1 Q
/-- f(e, ..), f a built-in function -/
theorem pe_callB (hc : CallR X (.builtin id) r) (hg : Gl X x) (hm : X.mg x = none) (hv : bootBuiltins x = some (.builtin id)) (ha : PA X (e :: es) t) (hn : x ≠ "__name__" := by decide) (hdb : (x == ("__debug__" : Str)) = false := by decide)
    (he : starEach (e :: es) X.env = (false, eval e X.env) :: starEach es X.env := by rfl) (hpl : (backTo pos (starEach es X.env)).any (·.1) = false := by rfl) : PE X (.Call (.Name x p) (e :: es) [] pos) (tCB r t) := by
  intro pins s σ H Q I h
  refine wpAny_Call_Name_kw (ld_blt I hg hm hv ?_ hn hdb)
  (refine PyProof.Rows.callWith_builtin1 (thn (ha pos pins s σ H _ I h) ?_) he hpl; rintro us s1 ⟨vs, H1, I1, r1, q1⟩; exact hc pins s1 σ H1 vs us Q I1 r1 q1)
/-- T(e, ..), T a built-in type -/
theorem pe_callTy (hc : CallR X (.type T) r) (hg : Gl X x) (hm : X.mg x = none) (hv : bootBuiltins x = some (.type T)) (ha : PA X (e :: es) t) (hn : x ≠ "__name__" := by decide) (hdb : (x == ("__debug__" : Str)) = false := by decide)
    (he : starEach (e :: es) X.env = (false, eval e X.env) :: starEach es X.env := by rfl) (hpl : (backTo pos (starEach es X.env)).any (·.1) = false := by rfl) : PE X (.Call (.Name x p) (e :: es) [] pos) (tCB r t) := by
  intro pins s σ H Q I h
  refine wpAny_Call_Name_kw (ld_blt I hg hm hv ?_ hn hdb)
  (refine PyProof.Rows.callWith_type1 (thn (ha pos pins s σ H _ I h) ?_) he hpl; rintro us s1 ⟨vs, H1, I1, r1, q1⟩; exact hc pins s1 σ H1 vs us Q I1 r1 q1)
end
end L2

namespace L2
open PySem PySem.Spec PyProof.Rows

/-! ### lists of pairs as tables -/
section
variable {κ : Type} [DecidableEq κ]
noncomputable def valV (kvs : List (κ × V)) (k : κ) : Option V := (kvs.find? fun kv => decide (kv.1 = k)).map (·.2)
/-- in its place, or at the end -/
noncomputable def putK (kvs : List (κ × V)) (k : κ) (v : V) : List (κ × V) :=
  if (kvs.any fun kv => decide (kv.1 = k)) = true then kvs.map (fun kv => if kv.1 = k then (kv.1, v) else kv) else kvs ++ [(k, v)]
noncomputable def dropK (kvs : List (κ × V)) (k : κ) : List (κ × V) := kvs.filter fun kv => decide (kv.1 ≠ k)

theorem valV_pos {p : κ × V} {r : List (κ × V)} {k : κ} (e : p.1 = k) : valV (p :: r) k = some p.2 := by simp [valV, List.find?_cons, e]
theorem valV_neg {p : κ × V} {r : List (κ × V)} {k : κ} (e : ¬ p.1 = k) : valV (p :: r) k = valV r k := by simp [valV, List.find?_cons, e]
theorem valV_any (k : κ) : ∀ kvs : List (κ × V), (kvs.any fun kv => decide (kv.1 = k)) = (valV kvs k).isSome
  | [] => rfl
  | p :: r => by
    rw [List.any_cons]
    by_cases e : p.1 = k
    · simp only [valV_pos e, decide_eq_true e, Bool.true_or, Option.isSome_some]
    · rw [valV_neg e, decide_eq_false e, Bool.false_or]; exact valV_any k r
theorem length_putK (kvs : List (κ × V)) (k : κ) (v : V) : (putK kvs k v).length ≤ kvs.length + 1 := by
  unfold putK
  split
  · rw [List.length_map]; omega
  · rw [List.length_append, List.length_cons, List.length_nil]; omega

theorem RelO.isSome_eq {o : Option V} {u : Option Value} (r : RelO o u) : o.isSome = u.isSome := by
  cases o with
  | none => cases u with
    | none => rfl
    | some _ => exact (show False from r).elim
  | some _ => cases u with
    | none => exact (show False from r).elim
    | some _ => rfl
theorem RelO.getD {o : Option V} {u : Option Value} {d : V} {d' : Value} (r : RelO o u) (rd : RelV d d') : RelV (o.getD d) (u.getD d') := by
  cases o with
  | none => cases u with
    | none => exact rd
    | some _ => exact (show False from r).elim
  | some _ => cases u with
    | none => exact (show False from r).elim
    | some _ => exact r

theorem KV.any {kvs : List (κ × V)} {vs : List (κ × Value)} (r : KV kvs vs) (k : κ) : (kvs.any fun kv => decide (kv.1 = k)) = vs.any fun kv => decide (kv.1 = k) := by
  unfold KV at r
  induction r with
  | nil => rfl
  | cons h t ih => rw [List.any_cons, List.any_cons, ih, h.1]
theorem KV.repl {kvs : List (κ × V)} {vs : List (κ × Value)} (r : KV kvs vs) (k : κ) {y : V} {u : Value} (ry : RelV y u) :
    KV (kvs.map fun kv => if kv.1 = k then (kv.1, y) else kv) (vs.map fun kv => if kv.1 = k then (kv.1, u) else kv) := by
  unfold KV at r ⊢
  induction r with
  | nil => exact .nil
  | @cons p q ps qs h t ih =>
    rw [List.map_cons, List.map_cons]
    refine .cons ?_ ih
    obtain ⟨h1, h2⟩ := h
    by_cases e : p.1 = k
    · rw [if_pos e, if_pos (h1.symm.trans e)]; exact ⟨h1, ry⟩
    · rw [if_neg e, if_neg (fun z => e (h1.trans z))]; exact ⟨h1, h2⟩
theorem KV.put {kvs : List (κ × V)} {vs : List (κ × Value)} (r : KV kvs vs) (k : κ) {y : V} {u : Value} (ry : RelV y u) : KV (putK kvs k y) (stored vs k u) := by
  unfold putK stored
  rw [r.any k]
  by_cases e : (vs.any fun kv => decide (kv.1 = k)) = true
  · rw [if_pos e, if_pos e]; exact r.repl k ry
  · rw [if_neg e, if_neg e]; exact Paired.snoc r ⟨rfl, ry⟩
theorem KV.drop {kvs : List (κ × V)} {vs : List (κ × Value)} (r : KV kvs vs) (k : κ) : KV (dropK kvs k) (without vs k) := by
  unfold KV at r ⊢
  unfold dropK without
  induction r with
  | nil => exact .nil
  | @cons p q ps qs h t ih =>
    obtain ⟨h1, h2⟩ := h
    rw [List.filter_cons, List.filter_cons]
    by_cases e : p.1 = k
    · have a : ¬ decide (p.1 ≠ k) = true := by simp [e]
      have b : ¬ decide (q.1 ≠ k) = true := by simp [h1.symm.trans e]
      rw [if_neg a, if_neg b]; exact ih
    · have e' : ¬ q.1 = k := fun z => e (h1.trans z)
      have a : decide (p.1 ≠ k) = true := by simp [e]
      have b : decide (q.1 ≠ k) = true := by simp [e']
      rw [if_pos a, if_pos b]; exact .cons ⟨h1, h2⟩ ih
theorem KV.keys {kvs : List (κ × V)} {vs : List (κ × Value)} (r : KV kvs vs) : kvs.map (·.1) = vs.map (·.1) := by
  unfold KV at r
  induction r with
  | nil => rfl
  | cons h t ih => rw [List.map_cons, List.map_cons, ih, h.1]
theorem KV.length {kvs : List (κ × V)} {vs : List (κ × Value)} (r : KV kvs vs) : kvs.length = vs.length := Paired.length r
end


/-! ### a tracked dict, its keys ints and texts or tuples of these -/
theorem kV_is {P : Program} {w : World} {k : Key} {u : Value} (r : RelV (kV k) u) : (mixKind P w).is k u = true := by
  cases k with
  | inl i => obtain ⟨t, e⟩ := (show ∃ t, u = Value.int i t from r); subst e; exact mixKind_int P w i t
  | inr x => obtain ⟨t, e⟩ := (show ∃ t, u = Value.str x t from r); subst e; exact mixKind_str P w x t
theorem items_are {P : Program} {w : World} : ∀ {ks : List Key} {us : List Value}, Vals (ks.map kV) us → ItemsAre (mixKind P w) ks us
  | [], _, r => by rw [List.map_nil] at r; cases r; exact .nil
  | k :: ks, _, r => by
    rw [List.map_cons] at r
    cases r with
    | cons h t => exact .cons (kV_is h) (items_are t)

/-- raw entries of a dict with tuple keys -/
noncomputable abbrev KT (H : Hp) : List (List Key × V) → List (List Key × Addr × Value) → Prop := Paired fun p q => p.1 = q.1 ∧ H q.2.1 = some (.tup (p.1.map kV)) ∧ RelV p.2 q.2.2
theorem KT.val {H : Hp} {kvs : List (List Key × V)} {xs : List (List Key × Addr × Value)} (r : KT H kvs xs) (k : List Key) : RelO (valV kvs k) ((atKey xs k).map (·.2)) := by
  induction r with
  | nil => exact True.intro
  | @cons p q ps qs h t ih =>
    obtain ⟨h1, _, h2⟩ := h
    by_cases e : p.1 = k
    · have e' : q.1 = k := h1.symm.trans e
      have b : atKey (q :: qs) k = some q.2 := by simp [atKey, List.find?_cons, e']
      rw [valV_pos e, b]; exact h2
    · have e' : ¬ q.1 = k := fun z => e (h1.trans z)
      have b : atKey (q :: qs) k = atKey qs k := by simp [atKey, List.find?_cons, e']
      rw [valV_neg e, b]; exact ih
theorem KT.repl {H : Hp} {kvs : List (List Key × V)} {xs : List (List Key × Addr × Value)} (r : KT H kvs xs) (k : List Key) {y : V} {u : Value} (ry : RelV y u) :
    KT H (kvs.map fun kv => if kv.1 = k then (kv.1, y) else kv) (xs.map (putAt k u)) := by
  induction r with
  | nil => exact .nil
  | @cons p q ps qs h t ih =>
    rw [List.map_cons, List.map_cons]
    refine .cons ?_ ih
    obtain ⟨h1, h2, h3⟩ := h
    unfold putAt
    by_cases e : p.1 = k
    · rw [if_pos e, if_pos (h1.symm.trans e)]; exact ⟨h1, h2, ry⟩
    · rw [if_neg e, if_neg (fun z => e (h1.trans z))]; exact ⟨h1, h2, h3⟩
theorem KT.put {H : Hp} {kvs : List (List Key × V)} {xs : List (List Key × Addr × Value)} (r : KT H kvs xs) (k : List Key) {b : Addr} {y : V} {u : Value} (hb : H b = some (.tup (k.map kV))) (ry : RelV y u) :
    KT H (putK kvs k y) (storedH xs k b u) := by
  have e : (kvs.any fun kv => decide (kv.1 = k)) = (atKey xs k).isSome := by
    rw [valV_any, (r.val k).isSome_eq, Option.isSome_map]
  unfold putK storedH
  rw [e]
  by_cases q : (atKey xs k).isSome = true
  · rw [if_pos q, if_pos q]; exact r.repl k ry
  · rw [if_neg q, if_neg q]; exact Paired.snoc r ⟨rfl, hb, ry⟩
theorem KT.keeps {H H' : Hp} {kvs : List (List Key × V)} {xs : List (List Key × Addr × Value)} (r : KT H kvs xs) (ht : ∀ b ys, H b = some (.tup ys) → H' b = some (.tup ys)) : KT H' kvs xs :=
  Paired.mapP r fun _ _ z => ⟨z.1, ht _ _ z.2.1, z.2.2⟩

section
variable {P : Program} {w : World} {H : Hp} {h : Heap} {a : Addr}
theorem rd_of {u : HO} (ok : HOk P w H h) (e : Rd H a u) : ObjOk P w H h a u := e.ok ok
theorem dk_rd {kvs : List (Key × V)} (ok : HOk P w H h) (e : Rd H a (.dK kvs)) : kvs.length ≤ sizeLine ∧ (a == sysModules) = false ∧ ∃ vs, KV kvs vs ∧ h.DictOf (mixKind P w) a vs :=
  show ObjOk P w H h a (.dK kvs) from rd_of ok e
theorem dk_of {kvs : List (Key × V)} (ok : HOk P w H h) (e : H a = some (.dK kvs)) : kvs.length ≤ sizeLine ∧ (a == sysModules) = false ∧ ∃ vs, KV kvs vs ∧ h.DictOf (mixKind P w) a vs := dk_rd ok (.inl e)
/-- a tracked tuple of ints and texts is a key -/
theorem key_of {ks : List Key} (ok : HOk P w H h) (e : H a = some (.tup (ks.map kV))) : (tupleKind (mixKind P w)).is h ks a := by
  obtain ⟨_, its, r, o, h1, h2, n, h3⟩ := (show ObjOk P w H h a (.tup (ks.map kV)) from ok a _ e)
  exact ⟨o, its.toArray, n, h1, h2, h3, by simpa using items_are r⟩
theorem dt_rd {kvs : List (List Key × V)} (ok : HOk P w H h) (e : Rd H a (.dT kvs)) : kvs.length ≤ sizeLine ∧ (a == sysModules) = false ∧
    ∃ xs, KT H kvs xs ∧ h.DictOfH (tupleKind (mixKind P w)) a xs := by
  obtain ⟨z, y, xs, r, o, es, ep, h1, h2, h3, h4, h5⟩ := (show ObjOk P w H h a (.dT kvs) from rd_of ok e)
  refine ⟨z, y, xs, r, o, es, ep, h1, h2, h3, h4, fun x hx => ?_, h5⟩
  have all : ∀ {l : List (List Key × V)} {m : List (List Key × Addr × Value)}, KT H l m → ∀ x ∈ m, (tupleKind (mixKind P w)).is h x.1 x.2.1 := by
    intro l m q
    induction q with
    | nil => intro x hx; exact nomatch hx
    | @cons p q ps qs hq t ih =>
      intro x hx
      rcases List.mem_cons.mp hx with e | hx
      · subst e
        exact key_of ok (by rw [← hq.1]; exact hq.2.1)
      · exact ih x hx
  exact all r x hx
theorem dt_of {kvs : List (List Key × V)} (ok : HOk P w H h) (e : H a = some (.dT kvs)) : kvs.length ≤ sizeLine ∧ (a == sysModules) = false ∧
    ∃ xs, KT H kvs xs ∧ h.DictOfH (tupleKind (mixKind P w)) a xs := dt_rd ok (.inl e)
end

/-- what the dict at a holds at the key y -/
noncomputable def DGet (H : Hp) (a : Addr) (y : V) (r : Option V) : Prop :=
  (∃ kvs k, Rd H a (.dK kvs) ∧ y = kV k ∧ r = valV kvs k) ∨ ∃ kvs k b, Rd H a (.dT kvs) ∧ y = .ref b ∧ H b = some (.tup (k.map kV)) ∧ r = valV kvs k
/-- the heap behind a[y] = v -/
noncomputable def DPut (H : Hp) (a : Addr) (y v : V) (H' : Hp) : Prop :=
  (∃ kvs k, H a = some (.dK kvs) ∧ y = kV k ∧ kvs.length < sizeLine ∧ H' = upd H a (.dK (putK kvs k v))) ∨
  ∃ kvs k b, H a = some (.dT kvs) ∧ y = .ref b ∧ H b = some (.tup (k.map kV)) ∧ kvs.length < sizeLine ∧ H' = upd H a (.dT (putK kvs k v))
theorem DGet.k {H : Hp} {a : Addr} {kvs : List (Key × V)} {k : Key} (e : H a = some (.dK kvs)) : DGet H a (kV k) (valV kvs k) := .inl ⟨kvs, k, .inl e, rfl, rfl⟩
theorem DGet.t {H : Hp} {a b : Addr} {kvs : List (List Key × V)} {k : List Key} (e : H a = some (.dT kvs)) (eb : H b = some (.tup (k.map kV))) : DGet H a (.ref b) (valV kvs k) := .inr ⟨kvs, k, b, .inl e, rfl, eb, rfl⟩
theorem DPut.k {H : Hp} {a : Addr} {kvs : List (Key × V)} {k : Key} {v : V} (e : H a = some (.dK kvs)) (hl : kvs.length < sizeLine) : DPut H a (kV k) v (upd H a (.dK (putK kvs k v))) := .inl ⟨kvs, k, e, rfl, hl, rfl⟩
theorem DPut.t {H : Hp} {a b : Addr} {kvs : List (List Key × V)} {k : List Key} {v : V} (e : H a = some (.dT kvs)) (eb : H b = some (.tup (k.map kV))) (hl : kvs.length < sizeLine) :
    DPut H a (.ref b) v (upd H a (.dT (putK kvs k v))) := .inr ⟨kvs, k, b, e, rfl, eb, hl, rfl⟩


section
variable {X : Cx} {pins : List (Addr × Obj)} {σ : St} {H : Hp} {s : Shared} {a : Addr} {y v : V} {u r : Value} {o : Option V} {A : Around} {E : Value → Shared → Prop}

theorem Inv.big (I : Inv X pins σ H s) : sysModules < s.heap.objs.size := by
  have h : mainGlobals < s.heap.objs.size := (I.mod.glob.keeps I.bk).lt
  exact Nat.lt_trans (by decide) h

/-- a dict's object is replaced -/
theorem d_write {h' : Heap} {t' : Nat} {ob : HO} (I : Inv X pins σ H s) (mu : Mut (H a)) (hs : Heap.SameBut a s.heap h') (he : ∃ q, h'.get? a = some q) (new : ObjOk X.prog X.w (upd H a ob) h' a ob) :
    Inv X pins σ (upd H a ob) { s with heap := h', toks := t' } :=
  I.write (x := a) (e := a) mu (.inl rfl) (fun b q hb z => (hs.2 b hb).trans z) he new
theorem dk_new {P : Program} {w : World} {H' : Hp} {h' : Heap} {kvs : List (Key × V)} {vs : List (Key × Value)} (z : kvs.length ≤ sizeLine) (hd : (a == sysModules) = false) (rel : KV kvs vs) (dd : h'.DictOf (mixKind P w) a vs) :
    ObjOk P w H' h' a (.dK kvs) := ⟨z, hd, vs, rel, dd⟩
/-- d[y] = v -/
theorem d_setItem {H' : Hp} {Q : Unit → Shared → Prop} (hu : A.units + 1 < cLine) (I : Inv X pins σ H s) (g : DPut H a y v H') (ry : RelV y u) (rv : RelV v r) (h : ∀ s', Inv X pins σ H' s' → Q () s') :
    wpAny (model X.prog X.w) A (setItem (.ref a) u r) Q E s := by
  rcases g with ⟨kvs, k, e, ey, l, eH⟩ | ⟨kvs, k, b, e, ey, eb, l, eH⟩
  · subst ey eH
    obtain ⟨z, hd, vs, rel, dd⟩ := dk_of I.hok e
    have hz : vs.length ≤ sizeLine := by rw [← rel.length]; exact z
    have hl : (putK kvs k v).length ≤ sizeLine := by have := length_putK kvs k v; omega
    refine wpAny_setItem_pairs (hsz := hz) (kV_is ry) dd fun h' dd' hs => h _ ?_
    have he : ∃ q, h'.get? a = some q := let ⟨q, _, _, hq, _⟩ := dd'; ⟨q, hq⟩
    exact d_write I (by rw [e]; exact True.intro) hs he (dk_new hl hd (rel.put k rv) dd')
  · subst ey eH
    cases (show u = Value.ref b from ry)
    obtain ⟨z, hd, xs, rel, dd⟩ := dt_of I.hok e
    have hz : xs.length ≤ sizeLine := by rw [← Paired.length rel]; exact z
    have hl : (putK kvs k v).length ≤ sizeLine := by have := length_putK kvs k v; omega
    refine wpAny_setItem_heap (hsz := hz) (tupleKind_room_in1 hu) (key_of I.hok eb) dd fun h' dd' hs => h _ ?_
    obtain ⟨q, es, ep, hq, h2, h3, h4, _, h5⟩ := dd'
    refine d_write I (by rw [e]; exact True.intro) hs ⟨q, hq⟩ ⟨hl, hd, _, (rel.put k eb rv).keeps fun c ys ec => ?_, q, es, ep, hq, h2, h3, h4, h5⟩
    rw [upd_ne (ne_of ec e (fun z => nomatch z))]
    exact ec
end

section
variable {X : Cx} {pins : List (Addr × Obj)} {σ : St} {H : Hp} {s : Shared} {a : Addr} {kvs : List (Key × V)} {k : Key} {u : Value} {A : Around} {E : Value → Shared → Prop}
end


/-! ### readings and rules -/
/-- the element of a subscription, not a slice -/
noncomputable def NoSl (i : Expr) : Prop := ∀ ov iv, subscripted i false ov iv = operate [ov, iv] (getItem ov iv)
theorem subD_of {prog : Program} {w : World} {A : Around} {E : Value → Shared → Prop} {s : Shared} {env : Env} {value slice : Expr} {pos : Pos} {T id : String} {Q : Value → Shared → Prop}
    (hl : typeLookup (.type T) "__getitem__" = pure (some (.builtin id))) (hs : NoSl slice)
    (h : wpAny (model prog w) A (eval value env) (fun o s₁ => wpAny (model prog w) A (eval slice env) (fun i s₂ => s₂.TypeIs o T ∧ wpAny (model prog w) A (getItem o i) Q E s₂) E s₁) E s) :
    wpAny (model prog w) A (eval (.Subscript value slice pos) env) Q E s := by
  refine Subscript_ (wpAny_mono h (fun o s₁ h₁ => wpAny_mono h₁ (fun i s₂ h₂ => ?_) fun _ _ x => x) fun _ _ x => x)
  obtain ⟨hT, h₂⟩ := h₂
  unfold subscriptTail
  refine wpAny_bind ?_
  rw [getitemInPython_of_ne hT.not_modules]
  refine wpAny_bind (wpAny_specialOf hT hl ?_)
  have fin : wpAny (model prog w) A (subscripted slice false o i) (fun r s₃ => wpAny (model prog w) A (letTemporaryGo value o r >>= fun _ => pure r) Q E s₃) E s₂ := by
    rw [hs o i]
    exact wpAny_operating (wpAny_mono h₂ (fun r s₃ h₃ => wpAny_bind (wpAny_letTemporaryGo (wpAny_pure h₃))) fun _ _ x => x)
  first
    | exact wpAny_pure (wpAny_bind fin)
    | exact wpAny_bind (wpAny_pure (wpAny_bind fin))
    | exact wpAny_bind fin


/-- d[y] = v -/
noncomputable def sDPut (td ty tv : TE) : TS := fun D σ H => tv σ H fun v H1 => td σ H1 fun x H2 => ty σ H2 fun y H3 => ∃ a H4, x = .ref a ∧ DPut H3 a y v H4 ∧ D.nx σ H4

section
variable {X : Cx} {o i e value : Expr} {pos pos' tpos : Pos} {td ty tv : TE}
theorem ps_dput (hu : X.A.units + 1 < cLine) (ho : PE X o td) (hi : PE X i ty) (hv : PE X value tv) (hs : swapsWith value (some (.Subscript o i pos')) pos.line X.env = pure false) :
    PS X (.Assign [.Subscript o i pos'] value pos) (sDPut td ty tv) := by
  intro pins s σ H D I h
  (refine wpAny_Assign_Subscript (thn (hv pins s σ H _ I h) ?_) hs; rintro r s1 ⟨v, H1, I1, rv, q1⟩; refine thn (ho pins s1 σ H1 _ I1 q1) ?_; rintro u s2 ⟨x, H2, I2, rx, q2⟩; refine thn (hi pins s2 σ H2 _ I2 q2) ?_; rintro iv s3 ⟨y, H3, I3, ry, a, H4, ex, g, q3⟩)
  subst ex
  obtain rfl : u = Value.ref a := rx
  exact d_setItem hu I3 g ry rv fun s4 I4 => ⟨σ, H4, I4, q3⟩
end


/-! ### displays -/
theorem dt_empty {P : Program} {w : World} {H : Hp} (h : Heap) (hb : sysModules < h.objs.size) : ObjOk P w H (h.push { cls := .type "dict", data := .dict #[] }) h.objs.size (.dT []) :=
  ⟨Nat.zero_le _, beq_eq_false_iff_ne.mpr (Ne.symm (Nat.ne_of_lt hb)), [], .nil, _, #[], 0, Heap.get?_push_size _ rfl, ⟨rfl, rfl, rfl⟩, rfl, rfl, List.nodup_nil⟩
noncomputable def tDNewT : TE := fun _ H Q => ∀ p, H p = none → Q (.ref p) (upd H p (.dT []))
section
variable {X : Cx} {pos : Pos}
theorem pe_dnewT : PE X (.Dict [] [] pos) tDNewT := fun pins s σ H Q I h =>
  wpAny_Dict_empty ⟨.ref s.heap.objs.size, _, I.laid (a := s.heap.objs.size) (o := .dT []) (t' := s.toks) (fun _ _ q => Heap.get?_push_of_some _ q) (Nat.le_refl _) (dt_empty s.heap I.big), rfl, h _ (I.hok.fresh (Nat.le_refl _))⟩
end




/-! ### methods -/
/-- a method call o.m(e) of a built-in, with one argument: what must be seen of the text -/
structure M1 (X : Cx) (o : Expr) (m : Str) (apos : Pos) (e : Expr) (cpos : Pos) : Prop where
  base : attributeBase o m X.env (eval o X.env) = eval o X.env
  few : ((backTo cpos (starEach [e] X.env)).all (fun x => !x.1) && (backToKw cpos (keywordEach [] X.env)).all (fun x => x.1.isSome)
    && decide (([e] : List Expr).length + ([] : List Keyword).length + (if ([] : List Keyword).isEmpty then 0 else 1) < 30)) = true
  line : (apos.endLine == cpos.line) = true
  trees : backTo cpos (starEach [e] X.env) = [(false, eval e X.env)]
structure M2 (X : Cx) (o : Expr) (m : Str) (apos : Pos) (e f : Expr) (cpos : Pos) : Prop where
  base : attributeBase o m X.env (eval o X.env) = eval o X.env
  few : ((backTo cpos (starEach [e, f] X.env)).all (fun x => !x.1) && (backToKw cpos (keywordEach [] X.env)).all (fun x => x.1.isSome)
    && decide (([e, f] : List Expr).length + ([] : List Keyword).length + (if ([] : List Keyword).isEmpty then 0 else 1) < 30)) = true
  line : (apos.endLine == cpos.line) = true
  trees : backTo cpos (starEach [e, f] X.env) = [(false, eval e X.env), (false, eval f X.env)]


section
variable {X : Cx} {pins : List (Addr × Obj)} {σ : St} {H : Hp} {s : Shared} {a : Addr} {y d : V} {u r : Value} {o : Option V} {A : Around} {E : Value → Shared → Prop}
end

section
variable {X : Cx} {o e f : Expr} {apos cpos : Pos} {td ty tx : TE}
end

/-! ### dict(d): a copy -/
section
variable {X : Cx} {pins : List (Addr × Obj)} {σ : St} {H : Hp} {s : Shared} {a : Addr} {kvs : List (Key × V)} {A : Around} {E : Value → Shared → Prop}
end


section
variable {X : Cx} {pins : List (Addr × Obj)} {σ : St} {H : Hp} {s : Shared} {a : Addr} {y : V} {u : Value} {A : Around} {E : Value → Shared → Prop}
end
end L2
namespace HT
open PySem PyProof.Rows

/-- t < u of tuples of ints -/
noncomputable def lexLt : List Int → List Int → Bool
  | [], [] => false
  | [], _ :: _ => true
  | _ :: _, [] => false
  | x :: xs, y :: ys => if x = y then lexLt xs ys else decide (x < y)
theorem lexLt_cons (x y : Int) (xs ys : List Int) : lexLt (x :: xs) (y :: ys) = if x = y then lexLt xs ys else decide (x < y) := rfl
theorem lexLt_nil_nil : lexLt [] [] = false := rfl
theorem lexLt_nil_cons (y : Int) (ys : List Int) : lexLt [] (y :: ys) = true := rfl
theorem lexLt_cons_nil (x : Int) (xs : List Int) : lexLt (x :: xs) [] = false := rfl

theorem eqAt_int (A : Around) (s : Shared) (a : Int) (t : Tok) (c : Int) (u : Tok) : ∃ e, SeqAt.EqAt A s (.int a t) (.int c u) e ∧ (e = true ↔ a = c) :=
  ⟨(a == c), SeqAt.EqAt.int_int a t c u, by simp⟩
theorem rcLt_int (A : Around) (s : Shared) (a : Int) (t : Tok) (c : Int) (u : Tok) (prog : Program) (w : World) (E : Value → Shared → Prop) (Q : Value → Shared → Prop) (h : Q (.bool (decide (a < c))) s) :
    wpAny (model prog w) A (richCompare .Lt (.int a t) (.int c u)) Q E s :=
  (PyProof.Rows.lt_int h : wpAny (model prog w) A (compareOp .Lt (.int a t) (.int c u)) Q E s)

section
open PySem.SeqAt
open PySem.AutoSeq1 (wpAny_loadPart')
open PySem.MeetsSeq PySem.MeetsSeq2 PySem.MeetsSeq3

theorem tuple_lt_ints (l b : Addr) (items items2 : Array Value) (n n2 : Nat) (dd dd2 : Option Addr) (sl sl2 : Array (Option Value)) (ns ms : List Int) (hi : IntsAre items.toList ns) (hj : IntsAre items2.toList ms) :
    Meets (Builtin.«tuple.__lt__» ⟨[.ref l, .ref b], []⟩)
      (fun _ R s => s.heap.get? l = some { cls := .type "tuple", dict := dd, data := .seq items n, slots := sl } ∧ s.heap.get? b = some { cls := .type "tuple", dict := dd2, data := .seq items2 n2, slots := sl2 } ∧
        R (.ok (.ret (.bool (lexLt ns ms)))) s) :=
  .of_wp fun prog w A R s h => by
    obtain ⟨hp, g, d, tk, os⟩ := s; obtain ⟨hl, hb, h⟩ := h
    have f2 := AutoSeq1.sub_tuple_tuple
    have z1 : items.size = ns.length := by rw [← hi.length]; simp
    have z2 : items2.size = ms.length := by rw [← hj.length]; simp
    wp_walk using wpAny_loadPart' hl, wpAny_loadPart' hb, wpAny_forIn_list _ (fun rest b s' => b.1 = none ∧ s' = ⟨hp, g, d, tk, os⟩ ∧ ∃ (vs ws : List Value) (ns' ms' : List Int), rest = vs.zip ws ∧
      IntsAre vs ns' ∧ IntsAre ws ms' ∧ ns'.length + items2.size = ms'.length + items.size ∧ R (.ok (.ret (.bool (lexLt ns' ms')))) ⟨hp, g, d, tk, os⟩) _
    case turn =>
      rintro ⟨y, x⟩ rest b s' ⟨hb', rfl, vs, ws, ns', ms', hz, hvi, hwi, hlen, hR⟩
      cases hvi with
      | nil => rw [List.zip_nil_left] at hz; cases hz
      | cons a t hvi' =>
        cases hwi with
        | nil => rw [List.zip_nil_right] at hz; cases hz
        | cons c u hwi' =>
          rw [List.zip_cons_cons] at hz
          injection hz with hyx hrest
          injection hyx with hy hx
          subst hy hx
          rw [lexLt_cons] at hR
          simp only [List.length_cons] at hlen
          obtain ⟨e, he, hiff⟩ := eqAt_int A.in1 ⟨hp, g, d, tk, os⟩ a t c u
          refine wpAny_bind (he prog w _ _ ?_)
          cases e with
          | true =>
            rw [if_pos (hiff.mp rfl)] at hR
            wp_walk
            exact ⟨rfl, rfl, _, _, _, _, hrest, hvi', hwi', by omega, hR⟩
          | false =>
            rw [if_neg (fun q => absurd (hiff.mpr q) Bool.false_ne_true)] at hR
            have hri := rcLt_int A.in1 ⟨hp, g, d, tk, os⟩ a t c u prog w
            wp_walk using hri
            exact ⟨_, rfl, by simpa using hR⟩
    case fin =>
      rintro ⟨b1, b2⟩ s' ⟨hb', rfl, vs, ws, ns', ms', hz, hvi, hwi, hlen, hR⟩
      simp only at hb'
      subst hb'
      have hv : lexLt ns' ms' = decide (items.size < items2.size) := by
        cases hvi with
        | nil =>
          cases hwi with
          | nil =>
            simp only [List.length_nil] at hlen
            rw [lexLt_nil_nil]
            exact (decide_eq_false (by omega)).symm
          | cons c u hw =>
            simp only [List.length_nil, List.length_cons] at hlen
            rw [lexLt_nil_cons]
            exact (decide_eq_true (by omega)).symm
        | cons a t hv =>
          cases hwi with
          | nil =>
            simp only [List.length_nil, List.length_cons] at hlen
            rw [lexLt_cons_nil]
            exact (decide_eq_false (by omega)).symm
          | cons c u hw =>
            rw [List.zip_cons_cons] at hz
            cases hz
      rw [hv] at hR
      wp_walk
      exact ⟨_, rfl, by simpa [Builtin.Tuple.tupleCompareSizes] using hR⟩
    case h =>
      exact ⟨rfl, rfl, items.toList, items2.toList, ns, ms, rfl, hi, hj, by omega, h⟩
end

section
variable {prog : Program} {w : World} {A : Around} {E : Value → Shared → Prop} {s : Shared}

theorem lt_tupInts {l b : Addr} {items items2 : Array Value} {ns ms : List Int} {Q : Value → Shared → Prop} (hl : IsTup s.heap l items) (hb : IsTup s.heap b items2) (hi : IntsAre items.toList ns) (hj : IntsAre items2.toList ms)
    (hu : A.units < cLine) (h : Q (.bool (lexLt ns ms)) s) : wpAny (model prog w) A (compareOp .Lt (.ref l) (.ref b)) Q E s := by
  obtain ⟨⟨cls, dd, data, sl⟩, ho, hc, n, hd⟩ := id hl
  obtain ⟨⟨cls2, dd2, data2, sl2⟩, ho2, hc2, n2, hd2⟩ := id hb
  simp only at hc hd hc2 hd2
  subst hc hd hc2 hd2
  exact richCompare_meets_room (op := .Lt) ⟨_, ho, rfl⟩ ⟨_, ho2, rfl⟩ PySem.F.slot_tuple_lt PySem.F.entry_tuple_lt (PySem.F.args_tuple_lt_2 _ _) (tuple_lt_ints l b items items2 n n2 dd dd2 sl sl2 ns ms hi hj)
    ⟨ho, ho2, show Value.bool (lexLt ns ms) ≠ Value.notImplemented ∧ Q (.bool (lexLt ns ms)) s from ⟨(fun x => nomatch x), h⟩⟩ hu

/-- t + u, t not empty -/
theorem cat_tup {t b : Addr} {vs ws : List Value} {Q : Value → Shared → Prop} (ht : IsTup s.heap t vs.toArray) (hb : IsTup s.heap b ws.toArray) (hv : vs ≠ [])
    (h1 : ws = [] → Q (.ref t) s) (h2 : ws ≠ [] → Q (.ref s.heap.objs.size) { s with heap := s.heap.push { cls := .type "tuple", data := .seq (vs ++ ws).toArray } })
    (hsz : vs.length + ws.length ≤ sizeLine) : wpAny (model prog w) A (binaryOp .Add (.ref t) (.ref b)) Q E s := by
  obtain ⟨⟨cls, dd, data, sl⟩, ho, hc, n, hd⟩ := id ht
  obtain ⟨⟨cls2, dd2, data2, sl2⟩, ho2, hc2, n2, hd2⟩ := id hb
  simp only at hc hd hc2 hd2
  subst hc hd hc2 hd2
  have e : vs.toArray ++ ws.toArray = (vs ++ ws).toArray := by simp
  by_cases hw : ws = []
  · exact concat_meets ⟨_, ho, rfl⟩ ⟨_, ho2, rfl⟩ noFill_tuple_add seq_tuple_add PySem.F.slot_tuple_add PySem.F.entry_tuple_add (PySem.F.args_tuple_add_2 _ _)
      (tuple_addW1 t b vs.toArray ws.toArray n n2 dd dd2 sl sl2 (by simpa using hv) (by simp [hw])) ⟨ho, ho2, h1 hw⟩
  · refine concat_meets ⟨_, ho, rfl⟩ ⟨_, ho2, rfl⟩ noFill_tuple_add seq_tuple_add PySem.F.slot_tuple_add PySem.F.entry_tuple_add (PySem.F.args_tuple_add_2 _ _)
      (tuple_addW2 t b vs.toArray ws.toArray n n2 dd dd2 sl sl2 (by simpa using hv) (by simpa using hw) (by rw [List.size_toArray, List.size_toArray]; exact hsz)) ⟨ho, ho2, ?_⟩
    rw [e]
    exact h2 hw

/-! ### t[a:b], not the whole -/
/-- a slice's bound as a place among n (d where it is left out) -/
noncomputable def sIx (n d : Nat) : Option Int → Nat
  | none => d
  | some v => if v < 0 then (v + (n : Int)).toNat else min v.toNat n

end
end HT

namespace L2
open PySem PySem.Spec PyProof.Rows

/-! ### the parts of a slice -/
noncomputable abbrev TO := St → Hp → (Option Int → Hp → Prop) → Prop
/-- a slice's part (left out, or an int) -/
noncomputable def PO (X : Cx) (e : Option Expr) (t : TO) : Prop :=
  ∀ (pins : List (Addr × Obj)) (s : Shared) (σ : St) (H : Hp) (Q : Option Int → Hp → Prop), Inv X pins σ H s → t σ H Q →
    wpAny (model X.prog X.w) X.A (evalPart e X.env) (fun u s' => ∃ o H', Inv X pins σ H' s' ∧ IsPart u o ∧ Q o H') X.xe s
noncomputable def tPart (t : TE) : TO := fun σ H Q => t σ H fun x H1 => ∃ i, x = .int i ∧ Q (some i) H1

theorem intsAre_of {ns : List Int} : ∀ {us : List Value}, Vals (ns.map V.int) us → IntsAre us ns := by
  induction ns with
  | nil => intro us r; rw [List.map_nil] at r; cases r; exact .nil
  | cons n ns ih =>
    intro us r
    rw [List.map_cons] at r
    cases r with
    | cons r1 r2 =>
      obtain ⟨t, e⟩ := r1
      subst e
      exact .cons n t (ih r2)

section
variable {X : Cx} {e : Expr} {te : TE} {lo hi : Option Expr} {tl th : TO} {pos p2 : Pos}

theorem po_some (h : PE X e te) : PO X (some e) (tPart te) := by
  intro pins s σ H Q I hw
  rw [evalPart_some]
  (refine thn (h pins s σ H _ I hw) ?_; rintro u s1 ⟨x, H1, I1, r1, q1⟩)
  obtain ⟨i, rfl, q⟩ := q1
  obtain ⟨t, rfl⟩ := r1
  exact ⟨some i, H1, I1, .int i t, q⟩

/-- what a slice of a value is, by values: the slice object stands at sl -/
noncomputable def SlR (X : Cx) (r : V → Option Int → Option Int → Hp → VK → Prop) : Prop :=
  ∀ (pins : List (Addr × Obj)) (s : Shared) (σ : St) (H : Hp) (x : V) (v vl vu : Value) (lo hi : Option Int) (sl : Addr) (Q : VK), Inv X pins σ H s → RelV x v → s.heap.IsSliceOf sl vl vu .none → IsPart vl lo → IsPart vu hi → r x lo hi H Q →
    ∃ T id, typeLookup (.type T) "__getitem__" = pure (some (.builtin id)) ∧ s.TypeIs v T ∧ wpAny (model X.prog X.w) X.A (getItem v (.ref sl)) (EP X pins σ Q) X.xe s
theorem SlR.or {r r' : V → Option Int → Option Int → Hp → VK → Prop} (h : SlR X r) (h' : SlR X r') : SlR X (fun x lo hi H Q => r x lo hi H Q ∨ r' x lo hi H Q) := by
  intro pins s σ H x v vl vu lo hi sl Q I rx hs pl pu q
  rcases q with q | q
  · exact h pins s σ H x v vl vu lo hi sl Q I rx hs pl pu q
  · exact h' pins s σ H x v vl vu lo hi sl Q I rx hs pl pu q

/-- the items of xs[lo:hi] -/
noncomputable def cutV (xs : List V) (lo hi : Option Int) : List V := (xs.drop (HT.sIx xs.length 0 lo)).take (HT.sIx xs.length xs.length hi - HT.sIx xs.length 0 lo)
theorem cutV_length (xs : List V) (lo hi : Option Int) : (cutV xs lo hi).length ≤ xs.length := by
  unfold cutV
  rw [List.length_take, List.length_drop]
  omega

/-! ### t < u, t + u -/
/-- t + u, t not empty: u empty gives t itself -/
noncomputable def rCatT (K : PySem.W.Frag) : R2 := fun x y H Q => ∃ a b xs ys, x = .ref a ∧ y = .ref b ∧ SqT K H a xs ∧ SqT K H b ys ∧ xs ≠ [] ∧ xs.length + ys.length ≤ sizeLine ∧
  (ys = [] → Q (.ref a) H) ∧ (ys ≠ [] → ∀ p, H p = none → Q (.ref p) (upd H p (.tup (xs ++ ys))))
theorem Vals.nil_iff {xs : List V} {us : List Value} (r : Vals xs us) : us = [] ↔ xs = [] := by
  cases r with
  | nil => simp
  | cons _ _ => simp
theorem op_catT : OpR X (binaryOp .Add) (rCatT X.K) := by
  intro pins s σ H x y v u Q I rx ry h
  obtain ⟨a, b, xs, ys, rfl, rfl, ha, hb, hx, hz, q1, q2⟩ := h
  cases rx
  cases ry
  obtain ⟨its, r1, p1, _⟩ := I.tuple ha
  obtain ⟨its2, r2, p2, _⟩ := I.tuple hb
  refine HT.cat_tup p1 p2 (fun z => hx (r1.nil_iff.mp z)) (fun z => ⟨.ref a, H, I, rfl, q1 (r2.nil_iff.mp z)⟩) (fun z => ?_) (by rw [← r1.length, ← r2.length]; exact hz)
  refine ⟨.ref s.heap.objs.size, _, I.laid (t' := s.toks) (o := .tup (xs ++ ys)) (fun b ob q => Heap.get?_push_of_some _ q) (Nat.le_refl _) ?_, rfl, q2 (fun w => z (r2.nil_iff.mpr w)) _ (I.hok.fresh (Nat.le_refl _))⟩
  exact ⟨by rw [List.length_append]; exact hz, _, r1.append r2, IsTup.new _ _⟩
end
end L2

namespace L2
open PySem PySem.Spec PyProof.Rows

/-! ### places -/
/-- the place that an index of any sign means -/
noncomputable def ixN (n : Nat) (i : Int) : Option Nat := if 0 ≤ i then (if i < n then some i.toNat else none) else if -(n : Int) ≤ i then some (i + n).toNat else none
noncomputable def atI {α : Type} (xs : List α) (i : Int) : Option α := (ixN xs.length i).bind fun j => xs[j]?
theorem ixN_seq {n : Nat} {i : Int} {j : Nat} (h : ixN n i = some j) : seqIndex? i n = some j ∧ j < n ∧ -(n : Int) ≤ i ∧ i < n := by
  unfold ixN at h
  by_cases h0 : 0 ≤ i
  · rw [if_pos h0] at h
    by_cases h1 : i < n
    · rw [if_pos h1] at h
      have e : i.toNat = j := Option.some.inj h
      exact ⟨by rw [seqIndex_of h0 h1, e], by omega, by omega, h1⟩
    · rw [if_neg h1] at h; cases h
  · rw [if_neg h0] at h
    by_cases h1 : -(n : Int) ≤ i
    · rw [if_pos h1] at h
      have e : (i + n).toNat = j := Option.some.inj h
      exact ⟨by rw [seqIndex_neg (by omega) h1, e], by omega, h1, by omega⟩
    · rw [if_neg h1] at h; cases h
theorem atI_get {α : Type} {xs : List α} {i : Int} {v : α} (h : atI xs i = some v) : ∃ j, seqIndex? i xs.length = some j ∧ xs[j]? = some v ∧ j < xs.length ∧ -(xs.length : Int) ≤ i ∧ i < xs.length := by
  unfold atI at h
  cases e : ixN xs.length i with
  | none => rw [e] at h; cases h
  | some j =>
    rw [e] at h
    obtain ⟨h1, h2, h3, h4⟩ := ixN_seq e
    exact ⟨j, h1, h, h2, h3, h4⟩
theorem atI_nat {α : Type} {xs : List α} {j : Nat} {v : α} (h : xs[j]? = some v) : atI xs (j : Int) = some v := by
  have hj : j < xs.length := (List.getElem?_eq_some_iff.mp h).1
  have e : ixN xs.length (j : Int) = some j := by
    unfold ixN
    rw [if_pos (by omega), if_pos (by omega)]; simp
  unfold atI; rw [e]; exact h
theorem atI_last {α : Type} (xs : List α) (v : α) : atI (xs ++ [v]) (-1) = some v := by
  have hl : (xs ++ [v]).length = xs.length + 1 := by simp
  have e : ixN (xs ++ [v]).length (-1) = some xs.length := by
    unfold ixN
    rw [hl, if_neg (by decide), if_pos (by omega)]
    congr 1
    omega
  unfold atI
  rw [e]
  show (xs ++ [v])[xs.length]? = some v
  simp

/-! ### what may be subscripted -/
/-- what stands as an index of a plain subscript -/
noncomputable def PlainIx (b : Expr) : Prop := ∀ o i, subscripted b false o i = operate [o, i] (getItem o i)
/-- a subscript by values -/
noncomputable def IxR (X : Cx) (r : R2) : Prop :=
  ∀ (value slice : Expr) (pins : List (Addr × Obj)) (s : Shared) (σ : St) (H : Hp) (x y : V) (v u : Value) (Q : VK), Inv X pins σ H s → RelV x v → RelV y u → r x y H Q →
    subscripted slice false v u = operate [v, u] (getItem v u) → wpAny (model X.prog X.w) X.A (subscriptTail value slice v u) (EP X pins σ Q) X.xe s
/-- a call of a builtin's method by values: the receiver, the arguments -/
noncomputable def MtR (X : Cx) (id : String) (r : V → List V → Hp → VK → Prop) : Prop :=
  ∀ (pins : List (Addr × Obj)) (s : Shared) (σ : St) (H : Hp) (x : V) (xs : List V) (v : Value) (us : List Value) (Q : VK), Inv X pins σ H s → RelV x v → Vals xs us → r x xs H Q →
    wpAny (model X.prog X.w) X.A (call (.builtin id) (v :: us)) (EP X pins σ Q) X.xe s
section
variable {X : Cx} {a b : Expr} {ta tb : TE} {pos : Pos}
theorem IxR.or {r r' : R2} (h : IxR X r) (h' : IxR X r') : IxR X (fun x y H Q => r x y H Q ∨ r' x y H Q) := by
  intro value slice pins s σ H x y v u Q I rx ry q hs
  rcases q with q | q
  · exact h value slice pins s σ H x y v u Q I rx ry q hs
  · exact h' value slice pins s σ H x y v u Q I rx ry q hs
theorem MtR.or {id : String} {r r' : V → List V → Hp → VK → Prop} (h : MtR X id r) (h' : MtR X id r') : MtR X id (fun x xs H Q => r x xs H Q ∨ r' x xs H Q) := by
  intro pins s σ H x xs v us Q I rx rs q
  rcases q with q | q
  · exact h pins s σ H x xs v us Q I rx rs q
  · exact h' pins s σ H x xs v us Q I rx rs q
/-- a[b] -/
theorem pe_ix {r : R2} (hr : IxR X r) (ha : PE X a ta) (hb : PE X b tb) (hs : PlainIx b) : PE X (.Subscript a b pos) (tOp r ta tb) := by
  intro pins s σ H Q I h
  exact Subscript_ (binT ha hb I h fun v u s2 x y H2 I2 rx ry q => hr a b pins s2 σ H2 x y v u Q I2 rx ry q (hs _ _))

noncomputable def rIxL (K : PySem.W.Frag) : R2 := fun x y H Q => ∃ p xs i v, x = .ref p ∧ y = .int i ∧ SqL K H p xs ∧ atI xs i = some v ∧ Q v H
noncomputable def rIxT (K : PySem.W.Frag) : R2 := fun x y H Q => ∃ p xs i v, x = .ref p ∧ y = .int i ∧ SqT K H p xs ∧ atI xs i = some v ∧ Q v H
noncomputable def rIxS : R2 := fun x y H Q => ∃ z i c, x = .str z ∧ y = .int i ∧ z.length ≤ sizeLine ∧ atI z.cps.toList i = some c ∧ Q (.str ⟨#[c]⟩) H
theorem ix_list : IxR X (rIxL X.K) := by
  intro value slice pins s σ H x y v u Q I rx ry h hs
  obtain ⟨p, xs, i, z, rfl, rfl, hq, he, q⟩ := h
  cases rx
  obtain ⟨t, rfl⟩ := ry
  obtain ⟨its, r, pl, hz⟩ := I.list hq
  obtain ⟨j, h1, h2, h3, h4, h5⟩ := atI_get he
  obtain ⟨w, ew, rw'⟩ := r.get h2
  have hl := r.length
  have hn := line63
  have fin : EP X pins σ Q w s := ⟨z, H, I, rw', q⟩
  by_cases h0 : 0 ≤ i
  · have hj : i.toNat = j := by
      rw [seqIndex_of h0 h5] at h1
      exact Option.some.inj h1
    exact item_listR pl.isList h0 (by omega) (by rw [hj]; simpa using ew) fin hs
  · have hj : (i + (its.toArray.size : Int)).toNat = j := by
      rw [seqIndex_neg (by omega) h4] at h1
      rw [List.size_toArray, ← hl]
      exact Option.some.inj h1
    exact subscriptTail_builtinR (x := w) pl.isList.typeIs slot_list_getitem.lookup
      (wpAny_getItem_list_neg (Q := fun r s' => r = w ∧ EP X pins σ Q r s') pl.isList (by omega) (by rw [List.size_toArray] <;> omega) (by omega) (by rw [hj]; simpa using ew) ⟨rfl, fin⟩) hs
theorem ix_tup : IxR X (rIxT X.K) := by
  intro value slice pins s σ H x y v u Q I rx ry h hs
  obtain ⟨p, xs, i, z, rfl, rfl, hq, he, q⟩ := h
  cases rx
  obtain ⟨t, rfl⟩ := ry
  obtain ⟨its, r, pl, hz⟩ := I.tuple hq
  obtain ⟨j, h1, h2, h3, h4, h5⟩ := atI_get he
  obtain ⟨w, ew, rw'⟩ := r.get h2
  have hl := r.length
  have hn := line63
  have fin : EP X pins σ Q w s := ⟨z, H, I, rw', q⟩
  exact subscriptTail_builtinR (x := w) pl.typeIs slot_tuple_getitem.lookup
    (getItem_tuple (j := j) (Q := fun r s' => r = w ∧ EP X pins σ Q r s') pl (by omega) (by omega) (by rw [List.size_toArray, ← hl]; exact h1) (by simpa using ew) ⟨rfl, fin⟩) hs
theorem ix_str : IxR X rIxS := by
  intro value slice pins s σ H x y v u Q I rx ry h hs
  obtain ⟨z, i, c, rfl, rfl, hz, he, q⟩ := h
  obtain ⟨t, rfl⟩ := rx
  obtain ⟨t', rfl⟩ := ry
  obtain ⟨j, h1, h2, h3, h4, h5⟩ := atI_get he
  have hl : z.cps.toList.length = z.length := by simp [Str.length]
  rw [hl] at h1 h4 h5
  have hn := line63
  exact tail_any (typeIs_str s z t) slot_str_getitem.lookup (getItem_str (c := c) (by
    have e1 : decide (i < -(2 ^ 63 : Int)) = false := decide_eq_false (by omega)
    have e2 : decide (i ≥ 2 ^ 63) = false := decide_eq_false (by omega)
    rw [e1, e2, Bool.or_false]) (by rw [h1]; simpa using h2) ⟨.str ⟨#[c]⟩, H, I.tok _, ⟨_, rfl⟩, q⟩) hs
/-- list, tuple or str -/
noncomputable def rIx (K : PySem.W.Frag) : R2 := fun x y H Q => rIxL K x y H Q ∨ rIxT K x y H Q ∨ rIxS x y H Q
theorem ix_seq : IxR X (rIx X.K) := ix_list.or (ix_tup.or ix_str)

/-! ### xs[i] = v, any sign -/
/-- the list's object behind a store -/
theorem mapSeq_set (its : List Value) (n j : Nat) (u : Value) : Obj.mapSeq (·.setIfInBounds j u) { cls := .type "list", data := .seq its.toArray n } = { cls := .type "list", data := .seq (its.set j u).toArray n } := by
  simp [Obj.mapSeq]
theorem Inv.lst {pins : List (Addr × Obj)} {σ : St} {H : Hp} {s : Shared} {p : Addr} {xs : List V} (I : Inv X pins σ H s) (h : H p = some (.lst xs)) :
    ∃ (its : List Value) (n : Nat), Vals xs its ∧ s.heap.get? p = some { cls := .type "list", data := .seq its.toArray n } ∧ xs.length ≤ sizeLine := by
  obtain ⟨z, its, n, r, e⟩ := I.hok p _ h
  exact ⟨its, n, r, e, z⟩
/-- the list at p is written by an update of its object -/
theorem Inv.lstUpd {pins : List (Addr × Obj)} {σ : St} {H : Hp} {s : Shared} {p : Addr} {xs ys : List V} {its its' : List Value} {n n' : Nat} {f : Obj → Obj} (I : Inv X pins σ H s) (h : H p = some (.lst xs))
    (ho : s.heap.get? p = some { cls := .type "list", data := .seq its.toArray n }) (hf : f { cls := .type "list", data := .seq its.toArray n } = { cls := .type "list", data := .seq its'.toArray n' }) (r : Vals ys its') (hz : ys.length ≤ sizeLine) (t : Nat) :
    Inv X pins σ (upd H p (.lst ys)) { s with heap := s.heap.update p f, toks := t } := by
  have e : (s.heap.update p f).get? p = some { cls := .type "list", data := .seq its'.toArray n' } := by
    rw [Heap.get?_update_self f ho (by rw [hf] <;> rfl), hf]
  refine I.write (x := p) (e := p) (by rw [h]; trivial) (.inl rfl) (fun b u hb q => (Heap.get?_update_other _ _ (Ne.symm hb)).trans q) ⟨_, e⟩ ?_
  exact ⟨hz, its', n', r, e⟩
noncomputable def rSetL : V → V → V → Hp → (Hp → Prop) → Prop := fun o i v H Q => ∃ p xs k j, o = .ref p ∧ i = .int k ∧ H p = some (.lst xs) ∧ ixN xs.length k = some j ∧ Q (upd H p (.lst (xs.set j v)))
theorem set_list : PSet X rSetL := by
  intro pins s σ H o i v ov iv u Q I ro ri rv h
  obtain ⟨p, xs, k, j, rfl, rfl, hp, hj, q⟩ := h
  cases ro
  obtain ⟨t, rfl⟩ := ri
  obtain ⟨its, n, r, ho, hz⟩ := I.lst hp
  obtain ⟨h1, h2, h3, h4⟩ := ixN_seq hj
  have hl := r.length
  have hn := line63
  have I' : Inv X pins σ (upd H p (.lst (xs.set j v))) { s with heap := s.heap.update p (Obj.mapSeq (·.setIfInBounds j u)) } :=
    I.lstUpd hp ho (mapSeq_set its n j u) (r.set rv j) (by rw [List.length_set]; exact hz) s.toks
  by_cases h0 : 0 ≤ k
  · have hk : k.toNat = j := by
      rw [seqIndex_of h0 h4] at h1
      exact Option.some.inj h1
    exact PySem.W.ki_setAt ho h0 (by omega) (by rw [List.size_toArray, ← hl]; exact h4) (by rw [hk]; exact ⟨_, I', q⟩)
  · have hk : (k + (its.toArray.size : Int)).toNat = j := by
      rw [seqIndex_neg (by omega) h3] at h1
      rw [List.size_toArray, ← hl]
      exact Option.some.inj h1
    exact PySem.W.ki_setBack ho (by omega) (by rw [List.size_toArray, ← hl]; exact h3) (by omega) (by rw [hk]; exact ⟨_, I', q⟩)

/-! ### slices -/
theorem slice_bounds (lo hi : Option Int) (n : Nat) : (sliceBounds lo hi none n).1 = ((HT.sIx n 0 lo : Nat) : Int) ∧ (sliceBounds lo hi none n).2.1 = ((HT.sIx n n hi : Nat) : Int) ∧ (sliceBounds lo hi none n).2.2 = 1 := by
  refine ⟨?_, ?_, rfl⟩
  · cases lo with
    | none => simp [sliceBounds, HT.sIx]
    | some i =>
      simp only [sliceBounds, HT.sIx, Option.getD_none, show (1 : Int) > 0 by decide, if_true]
      by_cases h : i < 0
      · simp only [h, if_true] <;> omega
      · simp only [h, if_false] <;> omega
  · cases hi with
    | none => simp [sliceBounds, HT.sIx]
    | some i =>
      simp only [sliceBounds, HT.sIx, Option.getD_none, show (1 : Int) > 0 by decide, if_true]
      by_cases h : i < 0
      · simp only [h, if_true] <;> omega
      · simp only [h, if_false] <;> omega
theorem slicePick_cut (its : List Value) (lo hi : Option Int) : slicePick its.toArray lo hi none = ((its.drop (HT.sIx its.length 0 lo)).take (HT.sIx its.length its.length hi - HT.sIx its.length 0 lo)).toArray := by
  obtain ⟨h1, h2, h3⟩ := slice_bounds lo hi its.toArray.size
  unfold slicePick
  rw [h1, h2, h3]
  simp only [sliceRange_one, pick_run, List.size_toArray] <;> rfl
/-- xs[lo:hi] of a list: a new list -/
noncomputable def rSlL (K : PySem.W.Frag) : V → Option Int → Option Int → Hp → VK → Prop := fun x lo hi H Q => ∃ a xs, x = .ref a ∧ SqL K H a xs ∧ ∀ p, H p = none → Q (.ref p) (upd H p (.lst (cutV xs lo hi)))
theorem sl_list : SlR X (rSlL X.K) := by
  intro pins s σ H x v vl vu lo hi sl Q I rx hs pl pu h
  obtain ⟨a, xs, rfl, hx, q⟩ := h
  cases rx
  obtain ⟨its, r, ht, hz⟩ := I.list hx
  have hlen := r.length
  refine ⟨"list", _, slot_list_getitem.lookup, ht.isList.typeIs, ?_⟩
  refine wpAny_getItem_list_slice ht.isList hs pl pu .none (by simp) ?_ (by rw [List.size_toArray] <;> omega)
  rw [slicePick_cut, ← hlen]
  refine ⟨.ref s.heap.objs.size, _, I.laid (t' := s.toks) (o := .lst (cutV xs lo hi)) (fun b ob q => Heap.get?_push_of_some _ q) (Nat.le_refl _) ?_, rfl, q _ (I.hok.fresh (Nat.le_refl _))⟩
  exact ⟨Nat.le_trans (cutV_length xs lo hi) hz, _, 0, (r.drop (HT.sIx xs.length 0 lo)).take (HT.sIx xs.length xs.length hi - HT.sIx xs.length 0 lo), Heap.get?_push_size _ rfl⟩

/-! ### in, not in: flat items -/
noncomputable def flatV : V → Bool
  | .non => true
  | .bl _ => true
  | .int _ => true
  | .str _ => true
  | _ => false
/-- == of flat values -/
noncomputable def eqV : V → V → Bool
  | .non, .non => true
  | .bl a, .bl b => a == b
  | .bl a, .int b => (if a then 1 else 0) == b
  | .int a, .bl b => a == (if b then 1 else 0)
  | .int a, .int b => a == b
  | .str a, .str b => a == b
  | _, _ => false
theorem eqAt_V {A : Around} {s : Shared} {y x : V} {u v : Value} (ry : RelV y u) (rx : RelV x v) (fy : flatV y = true) (fx : flatV x = true) : SeqAt.EqAt A s u v (eqV y x) := by
  cases y with
  | non =>
    cases ry
    cases x with
    | non => cases rx; exact SeqAt.EqAt.same _
    | bl b => cases rx; exact SeqAt.EqAt.none_bool b
    | int b => obtain ⟨t, rfl⟩ := rx; exact SeqAt.EqAt.none_int b t
    | str b => obtain ⟨t, rfl⟩ := rx; exact SeqAt.EqAt.none_str b t
    | _ => exact absurd (show false = true from fx) Bool.false_ne_true
  | bl a =>
    cases ry
    cases x with
    | non => cases rx; exact SeqAt.EqAt.bool_none a
    | bl b => cases rx; exact SeqAt.EqAt.bool_bool a b
    | int b => obtain ⟨t, rfl⟩ := rx; exact SeqAt.EqAt.bool_int a b t
    | str b => obtain ⟨t, rfl⟩ := rx; exact SeqAt.EqAt.bool_str a b t
    | _ => exact absurd (show false = true from fx) Bool.false_ne_true
  | int a =>
    obtain ⟨t', rfl⟩ := ry
    cases x with
    | non => cases rx; exact SeqAt.EqAt.int_none a t'
    | bl b => cases rx; exact SeqAt.EqAt.int_bool a t' b
    | int b => obtain ⟨t, rfl⟩ := rx; exact SeqAt.EqAt.int_int a t' b t
    | str b => obtain ⟨t, rfl⟩ := rx; exact SeqAt.EqAt.int_str a t' b t
    | _ => exact absurd (show false = true from fx) Bool.false_ne_true
  | str a =>
    obtain ⟨t', rfl⟩ := ry
    cases x with
    | non => cases rx; exact SeqAt.EqAt.str_none a t'
    | bl b => cases rx; exact SeqAt.EqAt.str_bool a t' b
    | int b => obtain ⟨t, rfl⟩ := rx; exact SeqAt.EqAt.str_int a t' b t
    | str b => obtain ⟨t, rfl⟩ := rx; exact SeqAt.EqAt.str_str a t' b t
    | _ => exact absurd (show false = true from fx) Bool.false_ne_true
  | _ => exact absurd (show false = true from fy) Bool.false_ne_true
/-- the items' answers, read off the values (a value's own answer does not lean on its token) -/
noncomputable def eqU (x : V) (u : Value) : Bool := match u with
  | .none => eqV .non x
  | .bool b => eqV (.bl b) x
  | .int i _ => eqV (.int i) x
  | .str z _ => eqV (.str z) x
  | _ => false
theorem eqU_of {x y : V} {u : Value} (r : RelV y u) (f : flatV y = true) : eqU x u = eqV y x := by
  cases y with
  | non => cases r; rfl
  | bl b => cases r; rfl
  | int i => obtain ⟨t, rfl⟩ := r; rfl
  | str z => obtain ⟨t, rfl⟩ := r; rfl
  | _ => exact absurd (show false = true from f) Bool.false_ne_true
theorem any_eqU {x : V} : ∀ {xs : List V} {us : List Value}, Vals xs us → xs.all flatV = true → us.any (eqU x) = xs.any fun y => eqV y x
  | _, _, .nil, _ => rfl
  | y :: xs, u :: us, .cons r t, f => by
    rw [List.all_cons, Bool.and_eq_true] at f
    rw [List.any_cons, List.any_cons, eqU_of r f.1, any_eqU t f.2]
theorem mem_eqAt {A : Around} {s : Shared} {x : V} {v : Value} (rx : RelV x v) (fx : flatV x = true) : ∀ {xs : List V} {us : List Value}, Vals xs us → xs.all flatV = true → ∀ u ∈ us, SeqAt.EqAt A s u v (eqU x u)
  | _, _, .nil, _ => fun u hu => by cases hu
  | y :: xs, u :: us, .cons r t, f => fun u' hu => by
    rw [List.all_cons, Bool.and_eq_true] at f
    rcases List.mem_cons.mp hu with rfl | hu
    · rw [eqU_of r f.1]; exact eqAt_V r rx f.1 fx
    · exact mem_eqAt rx fx t f.2 u' hu
noncomputable def inV (x : V) (xs : List V) : Bool := xs.any fun y => eqV y x
/-- x in a list or tuple of flat items -/
noncomputable def rIn (K : PySem.W.Frag) (neg : Bool) : R2 := fun x y H Q => ∃ p xs, y = .ref p ∧ (SqL K H p xs ∨ SqT K H p xs) ∧ flatV x = true ∧ xs.all flatV = true ∧ Q (.bl (if neg then !inV x xs else inV x xs)) H
theorem op_in_seq : OpR X (compareOp .In) (rIn X.K false) := by
  intro pins s σ H x y v u Q I rx ry h
  obtain ⟨p, xs, rfl, hq, fx, fs, q⟩ := h
  cases ry
  rcases hq with hq | hq
  · obtain ⟨its, r, pl, hz⟩ := I.list hq
    refine SeqAt.in_listAt (eqU x) pl.isList (fun w hw => mem_eqAt rx fx r fs w (by simpa using hw)) ⟨.bl _, H, I, rfl, ?_⟩
    rw [show its.toArray.any (eqU x) = its.any (eqU x) by simp, any_eqU r fs]
    exact q
  · obtain ⟨its, r, pl, hz⟩ := I.tuple hq
    refine SeqAt.in_tupleAt (eqU x) pl (fun w hw => mem_eqAt rx fx r fs w (by simpa using hw)) ⟨.bl _, H, I, rfl, ?_⟩
    rw [show its.toArray.any (eqU x) = its.any (eqU x) by simp, any_eqU r fs]
    exact q
theorem op_notIn_seq : OpR X (compareOp .NotIn) (rIn X.K true) := by
  intro pins s σ H x y v u Q I rx ry h
  obtain ⟨p, xs, rfl, hq, fx, fs, q⟩ := h
  cases ry
  rcases hq with hq | hq
  · obtain ⟨its, r, pl, hz⟩ := I.list hq
    refine SeqAt.notIn_listAt (eqU x) pl.isList (fun w hw => mem_eqAt rx fx r fs w (by simpa using hw)) ⟨.bl _, H, I, rfl, ?_⟩
    rw [show its.toArray.any (eqU x) = its.any (eqU x) by simp, any_eqU r fs]
    exact q
  · obtain ⟨its, r, pl, hz⟩ := I.tuple hq
    refine SeqAt.notIn_tupleAt (eqU x) pl (fun w hw => mem_eqAt rx fx r fs w (by simpa using hw)) ⟨.bl _, H, I, rfl, ?_⟩
    rw [show its.toArray.any (eqU x) = its.any (eqU x) by simp, any_eqU r fs]
    exact q

/-! ### len, list(x), tuple(x) of any list or tuple that is read -/
theorem call_len_seq : CallR X (.builtin "len") (fun xs H Q => ∃ p ys, xs = [.ref p] ∧ (SqL X.K H p ys ∨ SqT X.K H p ys) ∧ Q (.int ys.length) H) := by
  intro pins s σ H xs us Q I r h
  obtain ⟨p, ys, rfl, hq, q⟩ := h
  obtain ⟨u, rfl, rx⟩ := vals1 r
  cases rx
  have hn := line63
  rcases hq with hq | hq
  · obtain ⟨its, r', pl, hz⟩ := I.list hq
    have hlen := r'.length
    exact Calls.call_len_list pl.isList (by simp only [List.size_toArray] <;> omega) ⟨.int ys.length, H, I.tok _, ⟨s.toks + 1, by rw [List.size_toArray, hlen]⟩, q⟩
  · obtain ⟨its, r', pl, hz⟩ := I.tuple hq
    have hlen := r'.length
    exact len_tuple pl (by simp only [List.size_toArray] <;> omega) ⟨.int ys.length, H, I.tok _, ⟨s.toks + 1, by rw [List.size_toArray, hlen]⟩, q⟩
theorem call_len_str : CallR X (.builtin "len") (fun xs H Q => ∃ z, xs = [.str z] ∧ z.length ≤ sizeLine ∧ Q (.int z.length) H) := by
  intro pins s σ H xs us Q I r h
  obtain ⟨z, rfl, hz, q⟩ := h
  obtain ⟨u, rfl, t, rfl⟩ := vals1 r
  have hn := line63
  exact len_str (by omega) ⟨.int z.length, H, I.tok _, ⟨_, rfl⟩, q⟩
theorem CallR.or {f : Value} {r r' : List V → Hp → VK → Prop} (h : CallR X f r) (h' : CallR X f r') : CallR X f (fun xs H Q => r xs H Q ∨ r' xs H Q) := by
  intro pins s σ H xs us Q I rs q
  rcases q with q | q
  · exact h pins s σ H xs us Q I rs q
  · exact h' pins s σ H xs us Q I rs q
theorem call_list_of : CallR X (.type "list") (fun xs H Q => ∃ p ys, xs = [.ref p] ∧ (SqL X.K H p ys ∨ SqT X.K H p ys) ∧ ∀ l, H l = none → Q (.ref l) (upd H l (.lst ys))) := by
  intro pins s σ H xs us Q I r h
  obtain ⟨p, ys, rfl, hq, q⟩ := h
  obtain ⟨u, rfl, rx⟩ := vals1 r
  cases rx
  have fin : ∀ (its : List Value), Vals ys its → ys.length ≤ sizeLine → ∀ (h' : Heap) (c' : Nat), (∀ b o', s.heap.get? b = some o' → h'.get? b = some o') →
      h'.get? s.heap.objs.size = some { cls := .type "list", dict := none, data := .seq its.toArray c', slots := #[] } → EP X pins σ Q (.ref s.heap.objs.size) { s with heap := h' } := fun its r' hz h' c' kp e =>
    ⟨.ref s.heap.objs.size, _, I.laid (t' := s.toks) kp (Nat.le_refl _) (show ObjOk X.prog X.w _ h' _ (.lst ys) from ⟨hz, its, c', r', e⟩), rfl, q _ (I.hok.fresh (Nat.le_refl _))⟩
  rcases hq with hq | hq
  · obtain ⟨its, r', pl, hz⟩ := I.list hq
    have hlen := r'.length
    obtain ⟨o, ho, hc, n, hd⟩ := pl.isList
    exact call_list_seq p (.inl rfl) ho hc hd (fun h' c' kp e => fin its r' hz h' c' kp e) (by simp only [List.size_toArray] <;> omega)
  · obtain ⟨its, r', pl, hz⟩ := I.tuple hq
    have hlen := r'.length
    obtain ⟨o, ho, hc, n, hd⟩ := pl
    exact call_list_seq p (.inr rfl) ho hc hd (fun h' c' kp e => fin its r' hz h' c' kp e) (by simp only [List.size_toArray] <;> omega)

/-! ### the call of a builtin's method: o.m(..) -/
/-- the value is of that builtin type -/
noncomputable def tyV (K : PySem.W.Frag) (T : String) (x : V) (H : Hp) : Prop := match x with
  | .str _ => T = "str"
  | .int _ => T = "int"
  | .ref p => (T = "list" ∧ ∃ xs, SqL K H p xs) ∨ (T = "tuple" ∧ ∃ o, K.lookup p = some o ∧ o.cls = .type "tuple" ∧ o.dict = none) ∨
      (T = "dict" ∧ ((∃ kvs, H p = some (.dK kvs)) ∨ ∃ kvs, H p = some (.dT kvs))) ∨ (T = "set" ∧ ∃ S n, H p = some (.set S n))
  | _ => False
theorem tyV_is {pins : List (Addr × Obj)} {σ : St} {H : Hp} {s : Shared} {T : String} {x : V} {v : Value} (I : Inv X pins σ H s) (r : RelV x v) (ty : tyV X.K T x H) :
    s.TypeIs v T ∧ ∀ a, v = .ref a → ∃ ob, s.heap.get? a = some ob ∧ ob.dict = none := by
  cases x with
  | str z =>
    obtain ⟨t, rfl⟩ := r
    cases (show T = "str" from ty)
    exact ⟨typeIs_str s z t, fun _ e => nomatch e⟩
  | int i =>
    obtain ⟨t, rfl⟩ := r
    cases (show T = "int" from ty)
    exact ⟨typeIs_int s i t, fun _ e => nomatch e⟩
  | ref p =>
    cases r
    rcases ty with ⟨rfl, xs, hq⟩ | ⟨rfl, o, hk, hc, hd⟩ | ⟨rfl, hk⟩ | ⟨rfl, S, n, hk⟩
    · obtain ⟨its, _, pl, _⟩ := I.list hq
      refine ⟨pl.isList.typeIs, fun a e => ?_⟩
      cases e
      obtain ⟨o, n, e, c, hd, _⟩ := pl
      exact ⟨o, e, hd⟩
    · refine ⟨⟨o, I.kIn p o hk, hc⟩, fun a e => ?_⟩
      cases e
      exact ⟨o, I.kIn _ o hk, hd⟩
    · have z : ∃ o, s.heap.get? p = some o ∧ o.ExactDict := by
        rcases hk with ⟨kvs, hk⟩ | ⟨kvs, hk⟩
        · obtain ⟨_, _, _, _, o, _, _, e, ex, _⟩ := I.hok p _ hk
          exact ⟨o, e, ex⟩
        · obtain ⟨_, _, _, _, o, _, _, e, ex, _⟩ := I.hok p _ hk
          exact ⟨o, e, ex⟩
      obtain ⟨o, e, ex⟩ := z
      refine ⟨⟨o, e, ex.1⟩, fun a e2 => ?_⟩
      cases e2
      exact ⟨o, e, ex.2.1⟩
    · obtain ⟨o, _, _, _, e, ex, _⟩ := I.hok p _ hk
      refine ⟨⟨o, e, ex.1⟩, fun a e2 => ?_⟩
      cases e2
      exact ⟨o, e, ex.2.1⟩
  | _ => exact False.elim ty
noncomputable def tBM0 (K : PySem.W.Frag) (T : String) (r : V → List V → Hp → VK → Prop) (to : TE) : TE := fun σ H Q => to σ H fun x H1 => tyV K T x H1 ∧ r x [] H1 Q
noncomputable def tBM (K : PySem.W.Frag) (T : String) (r : V → List V → Hp → VK → Prop) (to : TE) (t : TA) : TE := fun σ H Q => to σ H fun x H1 => tyV K T x H1 ∧ t σ H1 fun xs H2 => r x xs H2 Q
variable {o e : Expr} {es : List Expr} {to : TE} {t : TA} {name : Str} {apos cpos : Pos} {T id : String} {r : V → List V → Hp → VK → Prop}
theorem pe_bm0 (pa : PlainAttrs T) (slot : Slot T name id) (hty : typeOf (.builtin id) = pure (.type "method_descriptor")) (hm : MtR X id r) (ho : PE X o to)
    (hbase : attributeBase o name X.env (eval o X.env) = eval o X.env := by rfl) (hline : (apos.endLine == cpos.line) = true := by rfl) : PE X (.Call (.Attribute o name apos) [] [] cpos) (tBM0 X.K T r to) := by
  intro pins s σ H Q I h
  (refine wpAny_Call_method0_late hbase hline (thn (ho pins s σ H _ I h) ?_); rintro v s1 ⟨x, H1, I1, r1, ty, q1⟩)
  obtain ⟨h1, h2⟩ := tyV_is I1 r1 ty
  exact ⟨T, id, pa, slot, hty, h1, h2, Calls.callWith_builtin rfl (PySem.evalArgs_none (hm pins s1 σ H1 x [] v [] Q I1 r1 .nil q1))⟩
theorem pe_bm (pa : PlainAttrs T) (slot : Slot T name id) (hty : typeOf (.builtin id) = pure (.type "method_descriptor")) (hm : MtR X id r) (ho : PE X o to) (ha : PA X (e :: es) t)
    (hbase : attributeBase o name X.env (eval o X.env) = eval o X.env := by rfl)
    (hfew : ((backTo cpos (starEach (e :: es) X.env)).all (fun x => !x.1) && (backToKw cpos (keywordEach [] X.env)).all (fun x => x.1.isSome)
      && decide ((e :: es).length + ([] : List Keyword).length + (if ([] : List Keyword).isEmpty then 0 else 1) < 30)) = true := by rfl)
    (hline : (apos.endLine == cpos.line) = true := by rfl) (hs : starEach (e :: es) X.env = (false, eval e X.env) :: starEach es X.env := by rfl) (hplain : (backTo cpos (starEach es X.env)).any (·.1) = false := by rfl) :
    PE X (.Call (.Attribute o name apos) (e :: es) [] cpos) (tBM X.K T r to t) := by
  intro pins s σ H Q I h
  (refine wpAny_Call_method_late hbase hfew hline rfl (thn (ho pins s σ H _ I h) ?_); rintro v s1 ⟨x, H1, I1, r1, ty, q1⟩)
  obtain ⟨h1, h2⟩ := tyV_is I1 r1 ty
  refine ⟨T, id, pa, slot, hty, h1, h2, ?_⟩
  have hA := ha cpos pins s1 σ H1 _ I1 q1
  rw [hs] at hA ⊢
  refine Calls.callWith_builtin (by show (false || (backTo cpos (starEach es X.env)).any (·.1)) = false; rw [hplain] <;> rfl) (Calls.evalArgs_plain ?_)
  (refine thn hA ?_; rintro us s2 ⟨vs, H2, I2, r2, q2⟩; exact hm pins s2 σ H2 x vs v us Q I2 r1 r2 q2)
/- xs.append(e), list.index on a module's tuple .. are MtR facts of 06m -/
end
end L2

namespace L2
open PySem PySem.Spec PyProof.Rows

noncomputable def MtM (X : Cx) (id : String) (r : V → List V → Hp → VK → Prop) : Prop :=
  ∀ (pins : List (Addr × Obj)) (s : Shared) (σ : St) (H : Hp) (x : V) (xs : List V) (v : Value) (us : List Value) (Q : VK), Inv X pins σ H s → RelV x v → Vals xs us → r x xs H Q →
    wpAny (model X.prog X.w) X.A (call (.builtin id) (v :: us)) (EP X pins σ Q) X.xe s

/-! ### lists of values -/
theorem Vals.one : ∀ {x : V} {us : List Value}, Vals [x] us → ∃ u, us = [u] ∧ RelV x u
  | _, _, .cons r .nil => ⟨_, rfl, r⟩
theorem Vals.two : ∀ {x y : V} {us : List Value}, Vals [x, y] us → ∃ u v, us = [u, v] ∧ RelV x u ∧ RelV y v
  | _, _, _, .cons r (.cons q .nil) => ⟨_, _, rfl, r, q⟩
theorem Vals.zero : ∀ {us : List Value}, Vals [] us → us = []
  | _, .nil => rfl
theorem Vals.dropLast {xs : List V} {us : List Value} (h : Vals xs us) : Vals xs.dropLast us.dropLast := by
  induction h with
  | nil => exact .nil
  | cons r t ih =>
    cases t with
    | nil => exact .nil
    | cons q t' => exact .cons r ih
theorem Vals.eraseIdx : ∀ {xs : List V} {us : List Value} (i : Nat), Vals xs us → Vals (xs.eraseIdx i) (us.eraseIdx i)
  | _, _, _, .nil => .nil
  | _, _, 0, .cons _ t => t
  | _, _, i + 1, .cons r t => .cons r (Vals.eraseIdx i t)
theorem Vals.reverse {xs : List V} {us : List Value} (h : Vals xs us) : Vals xs.reverse us.reverse := by
  induction h with
  | nil => exact .nil
  | cons r t ih => rw [List.reverse_cons, List.reverse_cons]; exact Vals.append ih (.cons r .nil)
theorem Vals.rep {xs : List V} {us : List Value} (h : Vals xs us) : ∀ k : Nat, Vals (List.replicate k xs).flatten (List.replicate k us).flatten
  | 0 => .nil
  | k + 1 => by
    rw [List.replicate_succ, List.replicate_succ, List.flatten_cons, List.flatten_cons]
    exact Vals.append h (Vals.rep h k)
theorem erase_last {α : Type} (l : List α) : l.eraseIdx (l.length - 1) = l.dropLast := by
  induction l with
  | nil => rfl
  | cons a r ih =>
    cases r with
    | nil => rfl
    | cons b r =>
      have e : (a :: b :: r).length - 1 = ((b :: r).length - 1) + 1 := by
        have h1 : (a :: b :: r).length = r.length + 2 := rfl
        have h2 : (b :: r).length = r.length + 1 := rfl
        omega
      rw [e, List.eraseIdx_cons_succ, ih]
      all_goals rfl
theorem foldl_rep (its : List Value) : ∀ (k : Nat) (acc : List Value),
    List.foldl (fun x1 x2 => x1 ++ x2) acc.toArray (List.replicate k its.toArray) = (acc ++ (List.replicate k its).flatten).toArray
  | 0, acc => by simp
  | k + 1, acc => by
    have e : acc.toArray ++ its.toArray = (acc ++ its).toArray := by simp
    have e2 : (acc ++ its) ++ (List.replicate k its).flatten = acc ++ (List.replicate (k + 1) its).flatten := by
      rw [List.replicate_succ, List.flatten_cons, List.append_assoc]
    rw [← e2, ← foldl_rep its k (acc ++ its), ← e, List.replicate_succ, List.foldl_cons]

section
variable {X : Cx} {pins : List (Addr × Obj)} {σ : St} {H : Hp} {s : Shared} {l b : Addr} {xs ys zs : List V}

/-! ### the two steps: a tracked list is rewritten, a new list is laid -/
theorem Inv.lset {its its' : List Value} {n : Nat} {f : Array Value → Array Value} {t' : Nat} (I : Inv X pins σ H s) (hH : H l = some (.lst xs))
    (e : s.heap.get? l = some { cls := .type "list", data := .seq its.toArray n }) (hf : f its.toArray = its'.toArray) (hv : Vals ys its') (hz : ys.length ≤ sizeLine) :
    Inv X pins σ (upd H l (.lst ys)) { s with heap := s.heap.update l (Obj.mapSeq f), toks := t' } := by
  have q := PySem.IsL.update e f
  rw [hf] at q
  refine I.write (x := l) (e := l) (by rw [hH]; exact trivial) (.inl rfl) (fun b' u hb hu => (Heap.get?_update_other s.heap (Obj.mapSeq f) (Ne.symm hb)).trans hu) ⟨_, q⟩ ?_
  exact ⟨hz, its', _, hv, q⟩
theorem Inv.lnew {its : List Value} {t' : Nat} (I : Inv X pins σ H s) (hv : Vals ys its) (hz : ys.length ≤ sizeLine) :
    Inv X pins σ (upd H s.heap.objs.size (.lst ys)) { s with heap := s.heap.push { cls := .type "list", data := .seq its.toArray }, toks := t' } :=
  I.laid (fun _ _ q => Heap.get?_push_of_some _ q) (Nat.le_refl _) ⟨hz, its, 0, hv, Heap.get?_push_size _ rfl⟩
theorem Inv.fresh (I : Inv X pins σ H s) : H s.heap.objs.size = none := I.hok.fresh (Nat.le_refl _)
theorem Inv.lstM (I : Inv X pins σ H s) (hH : H l = some (.lst xs)) : xs.length ≤ sizeLine ∧ ∃ (its : List Value) (n : Nat), Vals xs its ∧ xs.length = its.length ∧ s.heap.get? l = some { cls := .type "list", data := .seq its.toArray n } := by
  obtain ⟨z, its, n, r, e⟩ := I.hok l _ hH
  exact ⟨z, its, n, r, r.length, e⟩

theorem notLongL {n : Nat} (h : n ≤ sizeLine) : Builtin.List.listTooLong n = false := by
  unfold Builtin.List.listTooLong
  exact decide_eq_false (by omega)
end

section
variable {X : Cx}

/-! ### methods -/
noncomputable def rAppend : V → List V → Hp → VK → Prop := fun x vs H Q => ∃ l xs y, x = .ref l ∧ vs = [y] ∧ H l = some (.lst xs) ∧ xs.length < sizeLine ∧ Q .non (upd H l (.lst (xs ++ [y])))
theorem mt_append : MtM X "list.append" rAppend := by
  intro pins s σ H x vs v us Q I rx rv h
  obtain ⟨l, xs, y, rfl, rfl, hH, hz, q⟩ := h
  cases rx
  obtain ⟨u, rfl, ru⟩ := rv.one
  obtain ⟨z, its, n, r, hl, e⟩ := I.lstM hH
  refine call_meets F.slot_list_append ⟨_, e, rfl⟩ F.entry_list_append (F.args_list_append_2 _ _) (PySem.list_append l its.toArray n u (by rw [List.size_toArray]; omega)) ⟨e, ?_⟩
  refine ⟨.non, _, I.lset (its' := its ++ [u]) hH e (by simp) (r.append (.cons ru .nil)) ?_, rfl, q⟩
  rw [List.length_append, List.length_singleton]
  omega

noncomputable def rExtend : V → List V → Hp → VK → Prop := fun x vs H Q => ∃ l b xs zs, x = .ref l ∧ vs = [.ref b] ∧ H l = some (.lst xs) ∧ H b = some (.lst zs) ∧ xs.length + zs.length ≤ sizeLine ∧ Q .non (upd H l (.lst (xs ++ zs)))
theorem mt_extend : MtM X "list.extend" rExtend := by
  intro pins s σ H x vs v us Q I rx rv h
  obtain ⟨l, b, xs, zs, rfl, rfl, hH, hB, hz, q⟩ := h
  cases rx
  obtain ⟨u, rfl, ru⟩ := rv.one
  cases ru
  obtain ⟨z, its, n, r, hl, e⟩ := I.lstM hH
  obtain ⟨z2, its2, n2, r2, hl2, e2⟩ := I.lstM hB
  have hsz : its.toArray.size + its2.toArray.size ≤ sizeLine := by rw [List.size_toArray, List.size_toArray]; omega
  have hlong : ¬ (!its.toArray.isEmpty && Builtin.List.listTooLong (its.toArray.size + its2.toArray.size)) = true := by
    rw [notLongL hsz, Bool.and_false]
    exact Bool.false_ne_true
  refine call_meets F.slot_list_extend ⟨_, e, rfl⟩ F.entry_list_extend (F.args_list_extend_2 _ _)
    (AutoSeq1.list_extend_list_list_0 l its.toArray n b its2.toArray n2 hlong (by rw [List.size_toArray]; omega) (by omega)) ⟨e, e2, ?_⟩
  refine ⟨.non, _, I.lset (its' := its ++ its2) hH e (by simp) (r.append r2) ?_, rfl, q⟩
  rw [List.length_append]
  omega

noncomputable def rPop : V → List V → Hp → VK → Prop := fun x vs H Q => ∃ l xs y, x = .ref l ∧ vs = [] ∧ H l = some (.lst xs) ∧ xs[xs.length - 1]? = some y ∧ Q y (upd H l (.lst xs.dropLast))
theorem mt_pop : MtM X "list.pop" rPop := by
  intro pins s σ H x vs v us Q I rx rv h
  obtain ⟨l, xs, y, rfl, rfl, hH, hy, q⟩ := h
  cases rx
  have hus := rv.zero
  subst hus
  obtain ⟨z, its, n, r, hl, e⟩ := I.lstM hH
  obtain ⟨u, hu, ru⟩ := r.get hy
  have hy' : its.toArray[its.toArray.size - 1]? = some u := by
    show its.toArray[its.length - 1]? = some u
    rw [← Array.getElem?_toList, ← hl]
    exact hu
  refine call_meets F.slot_list_pop ⟨_, e, rfl⟩ F.entry_list_pop (F.args_list_pop_1 _) (MeetsSeq.list_pop_last l its.toArray n u hy' (by rw [List.size_toArray]; omega)) ⟨e, ?_⟩
  refine ⟨y, _, I.lset (its' := its.dropLast) hH e ?_ r.dropLast ?_, ru, q⟩
  · show its.toArray.eraseIdxIfInBounds (its.toArray.size - 1) = its.dropLast.toArray
    rw [List.size_toArray, List.eraseIdxIfInBounds_toArray, erase_last]
  · rw [List.length_dropLast]
    omega



noncomputable def rClear : V → List V → Hp → VK → Prop := fun x vs H Q => ∃ l xs, x = .ref l ∧ vs = [] ∧ H l = some (.lst xs) ∧ Q .non (upd H l (.lst []))
theorem mt_clear : MtM X "list.clear" rClear := by
  intro pins s σ H x vs v us Q I rx rv h
  obtain ⟨l, xs, rfl, rfl, hH, q⟩ := h
  cases rx
  have hus := rv.zero
  subst hus
  obtain ⟨z, its, n, r, hl, e⟩ := I.lstM hH
  refine call_meets F.slot_list_clear ⟨_, e, rfl⟩ F.entry_list_clear (F.args_list_clear_1 _) (AutoSeq1.list_clear_list_0 l its.toArray n (by rw [List.size_toArray]; omega)) ⟨e, ?_⟩
  exact ⟨.non, _, I.lset (its' := []) (ys := []) hH e rfl .nil (Nat.zero_le _), rfl, q⟩

/-! ### list + list, list += list, list * int -/
noncomputable def rCat : R2 := fun x y H Q => ∃ l b xs zs, x = .ref l ∧ y = .ref b ∧ H l = some (.lst xs) ∧ H b = some (.lst zs) ∧ xs.length + zs.length ≤ sizeLine ∧ ∀ p, H p = none → Q (.ref p) (upd H p (.lst (xs ++ zs)))
theorem op_cat : OpR X (binaryOp .Add) rCat := by
  intro pins s σ H x y v u Q I rx ry h
  obtain ⟨l, b, xs, zs, rfl, rfl, hH, hB, hz, q⟩ := h
  cases rx
  cases ry
  obtain ⟨z, its, n, r, hl, e⟩ := I.lstM hH
  obtain ⟨z2, its2, n2, r2, hl2, e2⟩ := I.lstM hB
  refine PySem.P.add_list e e2 ?_ (by rw [List.size_toArray, List.size_toArray]; omega)
  have ea : its.toArray ++ its2.toArray = (its ++ its2).toArray := by simp
  rw [ea]
  exact ⟨.ref _, _, I.lnew (t' := s.toks) (r.append r2) (by rw [List.length_append]; omega), rfl, q _ I.fresh⟩
/-- a list times an int (a negative one is nothing) -/
noncomputable def rRep : R2 := fun x y H Q => ∃ l k xs, x = .ref l ∧ y = .int k ∧ H l = some (.lst xs) ∧ -(2 ^ 63) ≤ k ∧ k < 2 ^ 63 ∧ xs.length * k.toNat ≤ sizeLine ∧
  ∀ p, H p = none → Q (.ref p) (upd H p (.lst (List.replicate k.toNat xs).flatten))
theorem len_rep {α : Type} (xs : List α) (k : Nat) : (List.replicate k xs).flatten.length = k * xs.length := by
  induction k with
  | zero => simp
  | succ k ih => rw [List.replicate_succ, List.flatten_cons, List.length_append, ih, Nat.succ_mul, Nat.add_comm]
theorem op_rep : OpR X (binaryOp .Mult) rRep := by
  intro pins s σ H x y v u Q I rx ry h
  obtain ⟨l, k, xs, rfl, rfl, hH, h1, h2, hz, q⟩ := h
  cases rx
  obtain ⟨t, rfl⟩ := ry
  obtain ⟨z, its, n, r, hl, e⟩ := I.lstM hH
  have hlen : its.toArray.size * k.toNat ≤ sizeLine := by rw [List.size_toArray, ← hl]; exact hz
  have hcap : ¬ its.toArray.size * k.toNat > (2 ^ 63 - 1) / 8 := by
    have : (sizeLine : Nat) ≤ (2 ^ 63 - 1) / 8 := by decide
    omega
  have hfit : ¬ (!Builtin.List.listFitsIndex k) = true := by
    rw [fitsIndex_both h1 h2]
    exact Bool.false_ne_true
  have hlong : ¬ Builtin.List.listTooLong (its.toArray.size * k.toNat) = true := by
    rw [notLongL hlen]
    exact Bool.false_ne_true
  have hnew : List.foldl (fun x1 x2 => x1 ++ x2) #[] (List.replicate (if its.toArray.isEmpty = true then 0 else k.toNat) its.toArray) = (List.replicate k.toNat its).flatten.toArray := by
    have f0 : ∀ m : Nat, List.foldl (fun x1 x2 => x1 ++ x2) #[] (List.replicate m its.toArray) = (List.replicate m its).flatten.toArray := fun m => by
      have := foldl_rep its m []
      rw [List.nil_append] at this
      exact this
    rw [f0]
    cases its with
    | nil => simp
    | cons a r' => rw [if_neg (by simp)]
  refine wpAny_binaryOp_repeat_ref (T := "list") (U := "int") (by decide) ⟨_, e, rfl⟩ (fun s' => typeIs_int s' k t) noFill_list_mul F.fills_int_mul F.slot_int_rmul repeat_list F.slot_int_index.lookup
    (call_meets F.slot_int_rmul (typeIs_int s k t) F.entry_int_rmul (F.args_int_rmul_2 _ _) (int___rmul___int_list k t l its.toArray n)
      ⟨e, rfl, ⟨_, e, rfl⟩, call_meets F.slot_list_mul ⟨_, e, rfl⟩ F.entry_list_mul (F.args_list_mul_2 _ _) (AutoListH.list___mul___list_int_3 l its.toArray n k t hfit hcap hlong) ⟨e, ?_⟩⟩)
  rw [hnew]
  exact ⟨.ref _, _, I.lnew (t' := s.toks) (r.rep k.toNat) (by rw [len_rep, Nat.mul_comm]; exact hz), rfl, q _ I.fresh⟩

/-! ### del xs[i] -/
end

/-! ### xs[a:b] = ys -/
section
variable {prog : Program} {w : World} {A : Around} {E : Value → Shared → Prop} {s : Shared}
end

section
variable {X : Cx}
end
end L2

namespace Att
open PySem PySem.W PySem.Calls PyProof.Rows

/-! ### the script -/
theorem ints_of_wellAll {P : Params} {h : Heap} : ∀ (ns : List Int) (vs : List Value), WellAll P h vs (ns.map WData.int) → IntsAre vs ns := by
  intro ns
  induction ns with
  | nil =>
    intro vs w
    rw [List.map_nil] at w
    cases w
    exact .nil
  | cons n ns ih =>
    intro vs w
    rw [List.map_cons] at w
    cases w with
    | cons a b =>
      cases a
      exact .cons _ _ (ih _ b)

theorem script_of {l : OpenLaw} {n : Nat} (hn : l.most = some n) {P : Params} {h : Heap} {args : List WData} {vals : List Value}
    (hpre : l.row.toRowW.claim.pre args = true) (hwl : WellAll P h vals args) :
    ∃ a vs ns, vals = [Value.ref a] ∧ args = [WData.list (ns.map WData.int)] ∧ h.get? a = some { cls := .type "list", data := .seq vs.toArray } ∧ IntsAre vs ns ∧ ns.length ≤ n := by
  have hsh : WShape.hasAll [] args [.list .int] = true := (pre_splitW hpre).1
  have hc : l.pre.holds [] { args := args } = true := (pre_splitW hpre).2
  obtain ⟨d, r, rfl, h1, h2⟩ := hasAllW_cons hsh
  obtain rfl := hasAllW_nil h2
  obtain ⟨xs, rfl, h3⟩ := hasW_list h1
  obtain ⟨ns, rfl⟩ := items_int h3
  have hlen : ns.length ≤ n := by
    unfold OpenLaw.pre at hc
    have h4 : (WTm.not (.lt (.lit (.int (n : Int))) (.len (.arg 0)))).holds [] { args := [.list (ns.map .int)] } = true := by
      have h4 := (holds_andW hc).1
      rw [hn] at h4
      exact h4
    have h5 := condW_of h4 (w_not (w_lt w_lit (w_len_list (w_arg rfl))))
    rw [List.length_map] at h5
    refine Nat.le_of_not_lt fun q => ?_
    have q' : (n : Int) < ((ns.length : Nat) : Int) := by omega
    first
      | (rw [decide_eq_true q'] at h5; exact absurd h5 (by decide))
      | (simp at h5; omega)
  cases hwl with
  | cons w1 w2 =>
    cases w2
    cases w1 with
    | list ho hall => exact ⟨_, _, ns, rfl, rfl, ho, ints_of_wellAll ns _ hall, hlen⟩

theorem post_true (l : OpenLaw) (args : List WData) : l.row.toRowW.claim.post args (.bool true) args = true :=
  postW_of (r := l.row.toRowW) (X := (true == true))
    (show WShape.has [] (.bool true) .bool = true by first | rfl | decide | simp [WShape.has, WShape.arms, WShape.armsAll])
    (show (WTm.eq .res (.lit (.bool true))).value [] { args := args, res := some (.bool true), after := args } = some (.bool (true == true)) from w_eq_bool (w_res rfl) w_lit) rfl

/-! ### the attachment: holds_open's last premise (the goal 'hc' behind k_head) from a wpAny of the law's body -/

/-- the same from a codeAny of the CALL (for a layer whose function contracts speak of calls) -/
theorem attach_call {l : OpenLaw} {n : Nat} {q : Program} {loose : List Str} {XP : (Str → Option Value) → Heap → Prop} {YP : World → Heap → Prop} {d : DefRec}
    (hn : l.most = some n) (hdf : d.params.defaults = [])
    (call : ∀ (w : World) (s₀ s₁ : Shared) (mg mb : Str → Option Value) (fa : Addr) (o : Obj) (pm cd doc : Value) (a : Addr) (vs : List Value) (ns : List Int),
      Ground q loose [] XP w s₀ mg mb s₁.heap → YP w s₁.heap →
      s₁.heap.get? fa = some o → o.data = .func (docDef d.name d.params d.body d.scope pm cd doc) → s₁.heap.CodeRec cd d.name → mg d.name = some (.ref fa) →
      s₁.heap.get? a = some { cls := .type "list", data := .seq vs.toArray } → IntsAre vs ns → ns.length ≤ n → s₁.gens = #[] →
      codeAny (model l.prog w) callerA (.call (.ref fa) ⟨[.ref a], []⟩) (fun r s' => r = .ok (.ret (.bool true)) ∧ OldK s₁.heap s'.heap ∧ s'.os = s₁.os ∧ AllBare s'.gens) s₁) :
    WalkO q loose XP YP l.row.toRowW d [] (fun f vs => PySem.call f vs) := by
  intro w s₀ s₁ mg mb G Y fa o pm cd doc dV kV ho hd hcd hD hmg hg args vals as hpre hlay hrd hwl hlo
  obtain rfl : dV = .none := Dflts.none hD hdf
  obtain rfl : kV = .none := Dflts.noKw hD
  obtain ⟨a, vs, ns, rfl, rfl, hobj, hints, hlen⟩ := script_of hn hpre hwl
  refine enter_call (codeAny_mono (call w s₀ s₁ mg mb fa o pm cd doc a vs ns G Y ho (fd_plain hd) hcd hmg hobj hints hlen hg) fun r s' hq => ?_)
  obtain ⟨rfl, h2, h3, h4⟩ := hq
  exact ⟨.inl ⟨.bool true, .bool true, [], rfl, fun _ => rfl, .bool true, post_true l _, fun _ => ⟨List.Pairwise.nil, fun _ hm => (nomatch hm)⟩⟩, h2, h3, h4⟩


/-! ### rules over ANY heap (no ledger) from facts about the written part K: the library's own take a ledger (News) for what they write -/
section
variable {prog : Program} {w : World} {A : Around} {E : Value → Shared → Prop} {s : Shared} {K : Frag}





/-! the whole heap as the ledger: makes every rule that writes through a ledger a rule over any heap -/

end
end Att

namespace L2
open PySem PySem.Spec PyProof.Rows

theorem vals_ints : ∀ {vs : List Value} {ns : List Int}, IntsAre vs ns → Vals (ns.map V.int) vs
  | _, _, .nil => .nil
  | _, _, .cons n t h => .cons ⟨t, rfl⟩ (vals_ints h)

/-- nothing is tracked but the script, known to the object (or it is an object of the module) -/
noncomputable def Only (H : Hp) : Prop := ∀ b, H b = none ∨ ∃ o xs, H b = some (.frz o (.lst xs))

/-- THE HEAD: the law's promise, at the heap behind the top. F, the promise of the law's def, may use that base is part of the heap (so K.In base, base.Ns mainGlobals mg stand in Mod) -/
theorem law_call {P : Program} {w : World} {K : PySem.W.Frag} {mg mb : Str → Option Value} {CX : CXT} {k : Nat} {fa a : Addr} {fd : FuncData} {x : Str} {sp : Sp} {s₁ : Shared} {vs : List Value} {ns : List Int}
    (KX : K.In s₁.heap) (hns : s₁.heap.Ns mainGlobals mg) (hb : s₁.heap.Ns builtinsNs mb) (hbb : ∀ x : Str, x ≠ "__name__" → mb x = bootBuiltins x) (hlim : s₁.heap.NoLimit) (hg : s₁.gens = #[])
    (ha : s₁.heap.get? a = some { cls := .type "list", data := .seq vs.toArray }) (hi : IntsAre vs ns) (hl : ns.length ≤ sizeLine) (hr : Room k callerA)
    (F : ∀ base : Heap, K.In base → base.Ns mainGlobals mg → FnOk P w K mg base CX k fa fd [x] sp) (hbind : ∀ (s : Shared) (u : Value), BindsTo s fd ⟨[u], []⟩ [(x, u)])
    (hsp : ∀ H : Hp, Only H → SqL K H a (ns.map V.int) → sp [.ref a] H (fun v _ => v = .bl true) fun _ _ _ => False)
    (hCX : ∀ H e s', CX [] H s₁ (fun _ _ _ => False) e s' → False) :
    codeAny (model P w) callerA (.call (.ref fa) ⟨[.ref a], []⟩) (fun r s' => r = .ok (.ret (.bool true)) ∧ OldK s₁.heap s'.heap ∧ s'.os = s₁.os ∧ AllBare s'.gens) s₁ := by
  have rv := vals_ints hi
  have lenV := hi.length
  -- from an abstract heap in which nothing but the script may be tracked
  have core : ∀ H : Hp, Only H → SqL K H a (ns.map V.int) → HOk P w H s₁.heap → (∀ b, H b ≠ none → b = a) → (H a ≠ none → K.lookup a = none) →
      codeAny (model P w) callerA (.call (.ref fa) ⟨[.ref a], []⟩) (fun r s' => r = .ok (.ret (.bool true)) ∧ OldK s₁.heap s'.heap ∧ s'.os = s₁.os ∧ AllBare s'.gens) s₁ := by
    intro H hO hS hok hA hK
    have base_of : ∀ {b : Addr} {o : Obj}, s₁.heap.get? b = some o → H b = none → (hidT s₁.heap H).get? b = some o := fun e n => hidT_get e n
    have noA : ∀ {b : Addr} {o : Obj} {es : Array DictEntry} {ep : Nat}, s₁.heap.get? b = some o → o.data = .dict es ep → H b = none := fun {b o es ep} e d => by
      cases q : H b with
      | none => rfl
      | some u =>
        have e' : b = a := hA b (by rw [q]; simp)
        subst e'
        rw [ha] at e; cases e
        have d' : Data.seq vs.toArray _ = Data.dict es ep := d
        cases d'
    have nsK : ∀ {b : Addr} {m : Str → Option Value}, s₁.heap.Ns b m → (hidT s₁.heap H).Ns b m := fun {b m} ⟨o, es, ep, e, d, r⟩ => ⟨o, es, ep, base_of e (noA e d), d, r⟩
    have hKb : K.In (hidT s₁.heap H) := fun b o e => base_of (KX b o e) (by
      cases q : H b with
      | none => rfl
      | some u =>
        have e' : b = a := hA b (by rw [q]; simp)
        subst e'
        rw [hK (by rw [q]; simp)] at e; cases e)
    have hM : Mod K mg (hidT s₁.heap H) := ⟨hKb, nsK hns, ⟨mb, nsK hb, hbb⟩, let ⟨mc, h1, h2⟩ := hlim; ⟨mc, nsK h1, h2⟩⟩
    have e0 : Env0 P w K mg (hidT s₁.heap H) callerA [] s₁ H := ⟨rfl, hM, fun b o e => of_hidT e, Nat.le_of_eq (hidT_size _ _), trivial, fun b hb => absurd (show b ∈ ([] : List Addr) from hb) (by simp), hok, .of_eq hg⟩
    refine codeAny_mono ((F _ hKb (nsK hns)).run callerA [] s₁ H ⟨[.ref a], []⟩ [.ref a] [.ref a] _ _ hr e0 (hbind s₁ (.ref a)) (.cons rfl .nil) (hsp H hO hS)) fun r s' h => ?_
    cases r with
    | error e => exact (hCX H e s' h).elim
    | ok fl =>
      cases fl with
      | next => exact False.elim h
      | brk => exact False.elim h
      | cont => exact False.elim h
      | ret u =>
        obtain ⟨v, H', os, bare, un, hok', r', q⟩ := h
        have q' : v = .bl true := q
        subst q'
        obtain rfl : u = Value.bool true := r'
        refine ⟨rfl, OldK.of_keep fun b o e => ?_, os, bare⟩
        cases q : H b with
        | none => exact un.keep b o e q (by intro z; exact absurd (show b ∈ ([] : List Addr) from z) (by simp)) (by simp)
        | some u =>
          rcases hO b with z | ⟨ob, xs, z⟩
          · rw [q] at z; cases z
          · have z2 := un.frzs b ob _ z
            obtain ⟨e1, _⟩ := hok b _ z
            obtain ⟨e2, _⟩ := hok' b _ z2
            rw [e] at e1; cases e1
            exact e2
  cases hk : K.lookup a with
  | some o =>
    -- the script is one of the module's own objects
    have e := KX a o hk
    rw [ha] at e
    cases e
    refine core (fun _ => none) (fun _ => .inl rfl) (.inr ⟨_, vs.toArray, _, hk, rfl, rfl, rfl, by rw [List.size_toArray, lenV]; exact hl, by simpa using rv⟩) (fun b u z => by have z' : (none : Option HO) = some u := z; cases z') (fun b z => absurd rfl z) fun z => absurd rfl z
  | none =>
    refine core (fun b => if b = a then some (.frz { cls := .type "list", data := .seq vs.toArray } (.lst (ns.map V.int))) else none) (fun b => ?_) (.inl (.inr ⟨{ cls := .type "list", data := .seq vs.toArray }, if_pos rfl⟩)) (fun b u z => ?_) (fun b z => ?_) fun _ => hk
    · by_cases hb : b = a
      · exact .inr ⟨_, _, if_pos hb⟩
      · exact .inl (if_neg hb)
    · by_cases hb : b = a
      · have z' := (if_pos hb).symm.trans z
        cases z'
        subst hb
        exact ⟨ha, by rw [List.length_map]; exact hl, vs, _, rv, ha⟩
      · have z' := (if_neg hb).symm.trans z
        cases z'
    · by_cases hb : b = a
      · exact hb
      · exact absurd (if_neg hb) z
end L2

namespace L2
open PySem PySem.Spec PyProof.Rows


/-- the goal that k_head leaves (case hc), from the law's promise. F gives the function object fd (K's own) once, then the promise over every base -/
theorem walk_of {l : PySem.W.OpenLaw} {n k : Nat} {q : Program} {loose : List Str} {XP : (Str → Option Value) → Heap → Prop} {YP : World → Heap → Prop} {d : DefRec} {K : Params → PySem.W.Frag} {CX : World → CXT} {sp : World → Sp} {x : Str}
    (hn : l.most = some n) (hn2 : n ≤ sizeLine) (hdf : d.params.defaults = []) (hr : Room k callerA)
    (hY : ∀ (w : World) (h : Heap), YP w h → (K w.params).In h)
    (F : ∀ (w : World) (mg : Str → Option Value) (fa : Addr) (h : Heap), (K w.params).In h → h.Ns mainGlobals mg → mg d.name = some (.ref fa) →
      ∃ fd : FuncData, (∀ (s : Shared) (u : Value), BindsTo s fd ⟨[u], []⟩ [(x, u)]) ∧
        ∀ base : Heap, (K w.params).In base → base.Ns mainGlobals mg → FnOk l.prog w (K w.params) mg base (CX w) k fa fd [x] (sp w))
    (hsp : ∀ (w : World) (H : Hp) (a : Addr) (ns : List Int), ns.length ≤ n → Only H → SqL (K w.params) H a (ns.map V.int) → sp w [.ref a] H (fun v _ => v = .bl true) fun _ _ _ => False)
    (hCX : ∀ (w : World) (H : Hp) (s : Shared) (e : Value) (s' : Shared), CX w [] H s (fun _ _ _ => False) e s' → False) :
    PySem.W.WalkO q loose XP YP l.row.toRowW d [] (fun f vs => PySem.call f vs) := by
  refine Att.attach_call hn hdf fun w s₀ s₁ mg mb fa o pm cd doc a vs ns G Y ho hd hcd hmg hobj hints hlen hg => ?_
  have KX := hY w _ Y
  obtain ⟨fd, hb, hF⟩ := F w mg fa _ KX G.T.g hmg
  exact law_call KX G.T.g G.T.b G.T.builtins G.T.nolimit hg hobj hints (Nat.le_trans hlen hn2) hr hF hb (fun H hO hS => hsp w H a ns hlen hO hS) fun H e s' => hCX w H s₁ e s'
end L2

/- THE LAST THEOREM (shape; LID, My.* are yours):
   My.Adr: a structure of the addresses that your layer names (classes, functions); My.Txt K t: a structure (Prop) of the equations over K;
   My.txt_mk : {K} {implicit addresses ..} (e1 : nsIn K mainGlobals "law" = some (some (.ref f))) (e2 : K.lookup f = some ⟨oc, od, .func (fnOf "law" "law" params body scope dV kV doc pm an cdv ct), sl⟩) (e3 : codeIn K cdv "law" = true) .. : ∃ t, My.Txt K t

set_option maxHeartbeats 0 in
theorem PySem.Challenge.cw_LID_holds : PySem.Challenge.rw_LID.Holds := by
  w_on; o_law; k_head; (case hw => w_witness2)
  k_fill
  refine L2.walk_of (l := PySem.Challenge.rw_LID) (n := 63) (k := 40) (x := "script") (CX := fun w => ..) (sp := fun _ => My.sp_law) rfl (by decide) rfl ⟨rfl, by decide, by decide⟩ (fun w h Y => PySem.W.kIn_of Y) ?F ?S ?C
  case F =>
    intro w mg fa h KX G hmg
    have T : ∃ t, My.Txt (L2.KOf KX) t := by
      dsimp only [L2.KOf]                          -- K must stand as «<heap const> w.params» for k_is
      refine' My.txt_mk ?e1 ?e2 ?e3 ..
      (case e1 => PySem.W.k_is)                    -- in the order: a name -> its address -> its object -> its parts
      (case e2 => PySem.W.k_is)
      ..
    obtain ⟨t, T⟩ := T
    have e0 := hmg.symm.trans (PySem.W.mg_of KX G T.law)
    cases e0                                       -- fa is the law's own address
    exact ⟨_, fun s u => .of_eq rfl, fun base kb nb => My.law_fn T kb nb⟩     -- if «.of_eq rfl» comes too early: refine' ⟨_, ?b, fun base kb nb => My.law_fn T kb nb⟩; exact fun s u => .of_eq rfl
  case S => exact fun w H a ns hl hO hS => ..
  case C => exact ..
(the tactic k_is has no namespace: write k_is) -/

/-! SHORT WORDS over the layer: a def of the text, its body, what a loop and a test want. -/
namespace L2
open PySem PySem.Spec PyProof.Rows

/-! ### the text by places -/
noncomputable def defArgs (s : Stmt) : Arguments := match s with
  | .FunctionDef _ a _ _ _ _ _ _ _ _ => a
  | _ => { posonlyargs := [], args := [], vararg := none, kwonlyargs := [], kw_defaults := [], kwarg := none, defaults := [] }
noncomputable def defBody (s : Stmt) : List Stmt := match s with
  | .FunctionDef _ _ b _ _ _ _ _ _ _ => b
  | _ => []
noncomputable def defScope (s : Stmt) : Scope := match s with
  | .FunctionDef _ _ _ _ _ _ sc _ _ _ => sc
  | _ => { kind := .function, names := [], isGenerator := false, isCoroutine := false }

/-! ### no exception leaves a def -/
noncomputable abbrev CX0 : CXT := fun _ _ _ _ _ _ => False
noncomputable abbrev E0 : XK := fun _ _ _ => False
theorem pass0 {X : Cx} : Passes CX0 X E0 := fun _ _ _ _ _ _ _ h => h.elim

/-! ### a def (or method) of the text as it stands behind the top -/
structure Fun (K : PySem.W.Frag) (x qual : Str) (st : Stmt) (f : Addr) (fd : FuncData) : Prop where
  ex : ∃ (oc : Value) (od : Option Addr) (kV doc pm : Value) (an : Option Addr) (cdv ct : Value) (osl : Array (Option Value)),
    fd = PySem.W.fnOf x qual (defArgs st) (defBody st) (defScope st) .none kV doc pm an cdv ct ∧ K.lookup f = some ⟨oc, od, .func fd, osl⟩ ∧ PySem.W.codeIn K cdv qual = true
  kp : PySem.W.keepIn K (.ref f) = true
section
variable {P : Program} {w : World} {K : PySem.W.Frag} {mg : Str → Option Value} {base : Heap}
/-- THE RULE for a def: its body as a term of rules, and the reading of that term -/
theorem Fun.ok {x qual : Str} {st : Stmt} {f : Addr} {fd : FuncData} {N ps : List Str} {k : Nat} {sp : Sp} (F : Fun K x qual st f fd) (S : FnScope N ps (defScope st)) (len : ∀ vs H Q E, sp vs H Q E → vs.length = ps.length)
    (hbody : ∀ (cdv : Value) (A : Around) (outer : List Env) (s : Shared) (H : Hp) (vs : List V) (Q : VK) (E : XK), Room k (A.deeper (envOfC qual (defScope st) s.heap.objs.size f cdv)) → sp vs H Q E →
      ∃ t, PSs (cxOf CX0 P w K mg base N qual (defScope st) f cdv A outer s H E).nox (defBody st) t ∧ t { nx := fun _ H' => Q .non H', rt := Q } (start N vs) H) : FnOk P w K mg base CX0 (k + 1) f fd ps sp := by
  obtain ⟨oc, od, kV, doc, pm, an, cdv, ct, osl, rfl, lk, hcd⟩ := F.ex
  refine fn_of lk hcd S len fun A outer s H vs Q E hr hsp => ?_
  obtain ⟨t, h, q⟩ := hbody cdv A outer s H vs Q E hr hsp
  exact ⟨t, h.nox, q⟩
/-- how its arguments bind (no defaults): h is «fun _ _ _ _ _ _ us hl => match us, hl with | [_, _], _ => rfl», one _ a parameter -/
theorem Fun.binds {x qual : Str} {st : Stmt} {f : Addr} {fd : FuncData} {ps : List Str} (F : Fun K x qual st f fd)
    (h : ∀ (kV doc pm : Value) (an : Option Addr) (cdv ct : Value) (us : List Value), us.length = ps.length → bindArgs (PySem.W.fnOf x qual (defArgs st) (defBody st) (defScope st) .none kV doc pm an cdv ct) ⟨us, []⟩ = pure (ps.zip us)) : Binds K fd ps [] := by
  obtain ⟨oc, od, kV, doc, pm, an, cdv, ct, osl, rfl, lk, hcd⟩ := F.ex
  exact .all (h kV doc pm an cdv ct)
end
theorem hu_of {A : Around} {k : Nat} (hr : Room k A) : A.units + 1 < cLine := Nat.lt_of_le_of_lt (Nat.add_le_add_left (by decide : 1 ≤ 64) _) hr.units

/-! ### expressions in short: the name that stands in the i-th slot -/
section
variable {X : Cx}
end

/-! ### tests -/

/-! ### heaps -/
/-- all that was tracked is as it was -/
noncomputable def Same (H H' : Hp) : Prop := ∀ b o, H b = some o → H' b = some o
theorem Same.refl (H : Hp) : Same H H := fun _ _ h => h
theorem Same.trans {H H1 H2 : Hp} (a : Same H H1) (b : Same H1 H2) : Same H H2 := fun c o h => b c o (a c o h)
theorem Same.free {H H' : Hp} (e : Same H H') {l : Addr} (h : H' l = Option.none) : H l = Option.none := by
  cases q : H l with
  | none => rfl
  | some o =>
    rw [e l o q] at h
    cases h
theorem Same.seq {K : PySem.W.Frag} {H H' : Hp} {a : Addr} {xs : List V} (e : Same H H') (h : SqL K H a xs) : SqL K H' a xs := by
  rcases h with (h | ⟨o, h⟩) | h
  · exact .inl (.inl (e _ _ h))
  · exact .inl (.inr ⟨o, e _ _ h⟩)
  · exact .inr h

end L2

namespace L2
open PySem PySem.Spec PyProof.Rows
section
variable {X : Cx}
end
/-! ### a dict's pairs: keys that differ -/
section
variable {κ : Type} [DecidableEq κ]
end
end L2


/-! ### list comprehensions over the hand layer -/
namespace L2
open PySem PySem.Spec PyProof.Rows

theorem loop_go {prog : Program} {w : World} {A : Around} {R : Result → Shared → Prop} {s : Shared} {elt target iter : Expr} {ifs : List Expr} {scope : Scope} {pos : Pos} {it acc : Value} {env : Env} (I : Nat → Shared → Prop)
    (turn : ∀ n s, I n s → wpAny (model prog w) A (pyNext it) (fun r s₁ => match r with
      | none => R (.ok .next) s₁
      | some v => wpAny (model prog w) A (letOwnedTupleGo target it v) (fun _ s₁ => wpAny (model prog w) A (assign target env v) (fun _ s₂ =>
          wpAny (model prog w) A (forIn ifs true fun c r => if r = true then do let ok ← isTrue c env (eval c env); pure (ForInStep.yield ok) else pure (ForInStep.yield r)) (fun ok s₃ =>
            if ok = true then wpAny (model prog w) A (eval elt env) (fun x s₄ =>
              wpAny (model prog w) A (call (.builtin "list.append") [acc, x]) (fun _ s₅ => ∃ m, m < n ∧ I m s₅) (fun _ _ => False) s₄) (fun _ _ => False) s₃
            else ∃ m, m < n ∧ I m s₃) (fun _ _ => False) s₂) (fun _ _ => False) s₁) (fun _ _ => False) s₁) (fun _ _ => False) s)
    (n : Nat) (h : I n s) :
    codeAny (model prog w) A (.compLoop (.ListComp elt [⟨target, iter, ifs, 0⟩] scope pos) 0 it acc env) R s := by
  refine codeAny_loop rfl I (fun n s hI => ?_) n h
  show wpAny _ A ((compTurn (.ListComp elt [⟨target, iter, ifs, 0⟩] scope pos) 0 it acc env).onRaise (fun x => do noteFrame x env; theTreesLotGoes x)) _ _ s
  refine wpAny_noted ?_
  rw [compTurn_list]
  refine wpAny_bind (wpAny_standAt (wpAny_bind (wpAny_mono (turn n s hI) (fun r s₁ h₁ => ?_) fun _ _ h' => h'.elim)))
  cases r with
  | none => exact wpAny_pure h₁
  | some v =>
    refine wpAny_bind (wpAny_mono h₁ (fun _ s₂ h₂ => ?_) fun _ _ h' => h'.elim)
    refine wpAny_bind (wpAny_mono h₂ (fun _ s₂ h₂ => wpAny_bind (wpAny_mono h₂ (fun ok s₃ h₃ => ?_) fun _ _ h' => h'.elim)) fun _ _ h' => h'.elim)
    cases ok with
    | false => exact wpAny_pure ⟨rfl, h₃⟩
    | true =>
      exact wpAny_bind (wpAny_bind (wpAny_mono h₃ (fun x s₄ h₄ => wpAny_bind (wpAny_mono h₄ (fun _ s₅ h₅ => wpAny_pure (wpAny_pure ⟨rfl, h₅⟩)) fun _ _ h' => h'.elim)) fun _ _ h' => h'.elim))

/-- the cells that a block closes over -/
noncomputable def clOf (env : Env) : List (Str × NameKind) → List (Str × Addr) → List (Str × Addr)
  | [], cs => cs
  | (x, k) :: r, cs => clOf env r (if (k == .free) = true then (x, (env.cells.lookup x).getD 0) :: cs else cs)
theorem cellOf_some {env : Env} {x : Str} {c : Addr} (h : env.cells.lookup x = some c) : cellOf env x = pure c := by
  unfold cellOf; rw [h]
theorem closure_is {scope : Scope} {env : Env} (h : ∀ y ∈ scope.names, y.2 = .free → ∃ c, env.cells.lookup y.1 = some c) : closureFor scope env = pure (clOf env scope.names []) := by
  have key : ∀ (l : List (Str × NameKind)) (cs : List (Str × Addr)), (∀ y ∈ l, y.2 = .free → ∃ c, env.cells.lookup y.1 = some c) →
      (forIn l cs fun (y : Str × NameKind) r => if (y.2 == NameKind.free) = true then do let c ← cellOf env y.1; pure (ForInStep.yield ((y.1, c) :: r)) else pure (ForInStep.yield r) : Sem (List (Str × Addr))) = pure (clOf env l cs) := by
    intro l
    induction l with
    | nil => intro cs _; rfl
    | cons y r ih =>
      intro cs hl
      obtain ⟨x, k⟩ := y
      rw [List.forIn_cons]
      by_cases hk : k = .free
      · subst hk
        obtain ⟨c, hc⟩ := hl (x, .free) List.mem_cons_self rfl
        have e : ((NameKind.free == NameKind.free) : Bool) = true := rfl
        simp only [e, if_true, cellOf_some hc, pure_bind]
        rw [ih _ fun z hz => hl z (List.mem_cons_of_mem _ hz)]
        show _ = pure (clOf env r (if (NameKind.free == NameKind.free) = true then _ else _))
        rw [e, if_pos rfl, hc] <;> rfl
      · have e : (k == NameKind.free) = false := by simpa using hk
        simp only [e, Bool.false_eq_true, if_false, pure_bind]
        rw [ih _ fun z hz => hl z (List.mem_cons_of_mem _ hz)]
        show _ = pure (clOf env r (if (k == NameKind.free) = true then _ else _))
        rw [e, if_neg Bool.false_ne_true]
  have e : closureFor scope env = ((forIn scope.names ([] : List (Str × Addr)) fun (y : Str × NameKind) r => if (y.2 == NameKind.free) = true then do let c ← cellOf env y.1; pure (ForInStep.yield ((y.1, c) :: r)) else pure (ForInStep.yield r) : Sem (List (Str × Addr))) >>= fun cs => pure cs) := rfl
  rw [e, key scope.names [] h]
  rfl
theorem clOf_lookup {env : Env} {x : Str} {c : Addr} : ∀ {l : List (Str × NameKind)} {cs : List (Str × Addr)}, (∀ y ∈ l, y.2 = .free → ∃ c, env.cells.lookup y.1 = some c) → (∀ x c, cs.lookup x = some c → env.cells.lookup x = some c) →
    (clOf env l cs).lookup x = some c → env.cells.lookup x = some c
  | [], _, _, h, e => h x c e
  | (y, k) :: r, cs, hl, h, e => by
    refine clOf_lookup (l := r) (fun z hz => hl z (List.mem_cons_of_mem _ hz)) (fun x c e => ?_) e
    by_cases hk : k = .free
    · subst hk
      obtain ⟨d, hd⟩ := hl (y, .free) List.mem_cons_self rfl
      rw [if_pos (show (NameKind.free == NameKind.free) = true from rfl), List.lookup_cons] at e
      cases hx : x == y with
      | true => rw [hx, hd] at e; cases e; rw [eq_of_beq hx]; exact hd
      | false => rw [hx] at e; exact h x c e
    · rw [if_neg (by simpa using hk)] at e; exact h x c e
theorem clOf_has {env : Env} {x : Str} : ∀ {l : List (Str × NameKind)} {cs : List (Str × Addr)}, ((∃ c, cs.lookup x = some c) ∨ (x, NameKind.free) ∈ l) → ∃ c, (clOf env l cs).lookup x = some c
  | [], _, h => by
    rcases h with h | h
    · exact h
    · simp at h
  | (y, k) :: r, cs, h => by
    refine clOf_has (l := r) ?_
    rcases h with ⟨c, h⟩ | h
    · left
      by_cases hk : (k == NameKind.free) = true
      · rw [if_pos hk, List.lookup_cons]
        cases hx : x == y with
        | true => exact ⟨_, rfl⟩
        | false => exact ⟨c, h⟩
      · rw [if_neg hk]; exact ⟨c, h⟩
    · rcases List.mem_cons.mp h with e | h
      · injection e with e1 e2
        subst e1; subst e2
        left
        rw [if_pos (show (NameKind.free == NameKind.free) = true from rfl), List.lookup_cons]
        simp
      · exact .inr h

/-- the block's context: N' its names; s, H at its entry; fp what it walks -/
noncomputable def cxComp (X : Cx) (N' : List Str) (scope : Scope) (C : Addr) (s : Shared) (H : Hp) (fp : List Addr) : Cx :=
  { X with N := N', s₀ := s, H₀ := H, env := compEnvC scope (clOf X.env scope.names []) C X.env, outer := X.stack, ex := fp, fn := fun _ => false, pn := [], xe := fun _ _ => False }

/-- what is asked of a block's scope, over the scope around it: N' its names, ix the slots of N (around) of those that it closes over -/
structure BlkOk (X : Cx) (N' : List Str) (ix : List (Option Nat)) (scope : Scope) : Prop where
  kind : scope.kind = .function
  nocell : ∀ y ∈ scope.names, y.2 ≠ .cell
  names : ∀ y ∈ scope.names, y.2 = .local → scope.names.lookup y.1 = some .local
  frees : ∀ y ∈ scope.names, y.2 = .free → X.env.kindOf y.1 = some .cell ∨ X.env.kindOf y.1 = some .free
  len : ix.length = N'.length
  at_ : ∀ (i j : Nat) (x : Str), N'[i]? = some x → ix[i]? = some (some j) → X.N[j]? = some x ∧ scope.names.lookup x = some .free

/-- the block's slots at its entry -/
noncomputable def inner (ix : List (Option Nat)) (σ : St) : St := ix.map fun o => o.bind fun j => (σ[j]?).bind id

noncomputable def tComp (ix : List (Option Nat)) (wi : TI) (g : TG) (tc : TT) (te : TE) : TE := fun σ H Q => wi σ H fun J H1 => ∀ D, H1 D = none → ∃ W : Nat → Nat → St → Hp → Prop, (∃ m, W 0 m (inner ix σ) (upd H1 D (.lst []))) ∧ ∀ i m σi H, W i m σi H →
  (J.stop i H ∧ Q (.ref D) H) ∨ (J.go i H ∧ ∃ N : St → Hp → Prop, (∀ σ' H', N σ' H' → ∃ m', m' < m ∧ W (i + 1) m' σ' H') ∧ ∀ x H', J.yld i H x H' → g x σi H' fun σ2 H2 => tc σ2 H2 fun b H3 =>
    if b = true then te σ2 H3 fun v H4 => ∃ ys, H4 D = some (.lst ys) ∧ ys.length < sizeLine ∧ N σ2 (upd H4 D (.lst (ys ++ [v]))) else N σ2 H3)

theorem lookup_relabel_free {env : Env} {x : Str} : ∀ {names : List (Str × NameKind)}, names.lookup x = some .free → (env.kindOf x = some .cell ∨ env.kindOf x = some .free) →
    (names.map fun (n, k) => if (k == NameKind.free && env.scope.kind == .function && env.kindOf n == some .cell) then (n, NameKind.cell) else (n, k)).lookup x = some .cell ∨
    (names.map fun (n, k) => if (k == NameKind.free && env.scope.kind == .function && env.kindOf n == some .cell) then (n, NameKind.cell) else (n, k)).lookup x = some .free
  | [], h, _ => by simp at h
  | (n, k) :: r, h, ho => by
    cases hx : x == n with
    | true =>
      simp only [List.lookup_cons, hx] at h
      cases h
      by_cases hc : (NameKind.free == NameKind.free && env.scope.kind == .function && env.kindOf n == some .cell) = true
      · left
        show List.lookup x ((if (NameKind.free == NameKind.free && env.scope.kind == .function && env.kindOf n == some .cell) = true then (n, NameKind.cell) else (n, .free)) :: _) = _
        rw [if_pos hc]; simp only [List.lookup_cons, hx]
      · right
        show List.lookup x ((if (NameKind.free == NameKind.free && env.scope.kind == .function && env.kindOf n == some .cell) = true then (n, NameKind.cell) else (n, .free)) :: _) = _
        rw [if_neg hc]; simp only [List.lookup_cons, hx]
    | false =>
      simp only [List.lookup_cons, hx] at h
      have ih := lookup_relabel_free (env := env) h ho
      show List.lookup x ((if (k == NameKind.free && env.scope.kind == .function && env.kindOf n == some .cell) = true then (n, NameKind.cell) else (n, k)) :: _) = _ ∨
        List.lookup x ((if (k == NameKind.free && env.scope.kind == .function && env.kindOf n == some .cell) = true then (n, NameKind.cell) else (n, k)) :: _) = _
      by_cases hc : (k == NameKind.free && env.scope.kind == .function && env.kindOf n == some .cell) = true
      · rw [if_pos hc]; simp only [List.lookup_cons, hx]; exact ih
      · rw [if_neg hc]; simp only [List.lookup_cons, hx]; exact ih
theorem lookup_relabel_back {env : Env} {x : Str} : ∀ {names : List (Str × NameKind)}, (∀ y ∈ names, y.2 ≠ .cell) →
    ((names.map fun (n, k) => if (k == NameKind.free && env.scope.kind == .function && env.kindOf n == some .cell) then (n, NameKind.cell) else (n, k)).lookup x = some .cell ∨
    (names.map fun (n, k) => if (k == NameKind.free && env.scope.kind == .function && env.kindOf n == some .cell) then (n, NameKind.cell) else (n, k)).lookup x = some .free) → (x, NameKind.free) ∈ names
  | [], _, h => by simp at h
  | (n, k) :: r, hn, h => by
    have h : List.lookup x ((if (k == NameKind.free && env.scope.kind == .function && env.kindOf n == some .cell) = true then (n, NameKind.cell) else (n, k)) :: (r.map fun (n, k) => if (k == NameKind.free && env.scope.kind == .function && env.kindOf n == some .cell) then (n, NameKind.cell) else (n, k))) = some .cell ∨
      List.lookup x ((if (k == NameKind.free && env.scope.kind == .function && env.kindOf n == some .cell) = true then (n, NameKind.cell) else (n, k)) :: (r.map fun (n, k) => if (k == NameKind.free && env.scope.kind == .function && env.kindOf n == some .cell) then (n, NameKind.cell) else (n, k))) = some .free := h
    cases hx : x == n with
    | true =>
      have e : x = n := eq_of_beq hx
      subst e
      by_cases hc : (k == NameKind.free && env.scope.kind == .function && env.kindOf x == some .cell) = true
      · have hk : k = .free := by
          simp only [Bool.and_eq_true, beq_iff_eq] at hc
          exact hc.1.1
        subst hk; exact List.mem_cons_self
      · rw [if_neg hc] at h
        simp only [List.lookup_cons, hx, Option.some.injEq] at h
        rcases h with h | h
        · exact absurd h (hn (x, k) List.mem_cons_self)
        · subst h; exact List.mem_cons_self
    | false =>
      refine List.mem_cons_of_mem _ (lookup_relabel_back (env := env) (fun y hy => hn y (List.mem_cons_of_mem _ hy)) ?_)
      by_cases hc : (k == NameKind.free && env.scope.kind == .function && env.kindOf n == some .cell) = true
      · rw [if_pos hc] at h; simp only [List.lookup_cons, hx] at h; exact h
      · rw [if_neg hc] at h; simp only [List.lookup_cons, hx] at h; exact h
end L2
namespace L2
open PySem PySem.Spec PyProof.Rows
/-- the tests of a clause -/
noncomputable def PIfs (X : Cx) (ifs : List Expr) (t : TT) : Prop :=
  ∀ (pins : List (Addr × Obj)) (s : Shared) (σ : St) (H : Hp) (Q : Bool → Hp → Prop), Inv X pins σ H s → t σ H Q →
    wpAny (model X.prog X.w) X.A (forIn ifs true fun c r => if r = true then do let ok ← isTrue c X.env (eval c X.env); pure (ForInStep.yield ok) else pure (ForInStep.yield r)) (TP X pins σ Q) X.xe s
noncomputable def tYes : TT := fun _ H Q => Q true H
section
variable {X : Cx} {pins : List (Addr × Obj)} {σ : St} {H : Hp} {s : Shared}
theorem pifs_nil : PIfs X [] tYes := fun _ _ _ H _ I h => wpAny_tests_nil ⟨H, I, h⟩
theorem pifs_one {c : Expr} {t : TT} (h : PT X c t) : PIfs X [c] t := fun pins s σ H Q I hw => wpAny_tests_one (h pins s σ H Q I hw)

theorem Inv.blk {N' : List Str} {ix : List (Option Nat)} {scope : Scope} {fp : List Addr} {h1 : Heap} {tk : Nat} (I : Inv X pins σ H s) (B : BlkOk X N' ix scope) (f : ∀ b ∈ fp, FpOk X pins H b) (hlt : ∀ b ∈ fp, b < s.heap.objs.size)
    (ns : h1.Ns s.heap.objs.size (fun _ => none)) (old : ∀ b o, s.heap.get? b = some o → h1.get? b = some o) :
    Inv (cxComp X N' scope s.heap.objs.size s H fp) [] (inner ix σ) H { s with heap := h1, toks := tk } := by
  have hfree : ∀ y ∈ scope.names, y.2 = .free → ∃ c, X.env.cells.lookup y.1 = some c := fun y hy e => I.ok.has y.1 (B.frees y hy e)
  have hc : ∀ x c, (clOf X.env scope.names []).lookup x = some c → X.env.cells.lookup x = some c := fun x c e => clOf_lookup hfree (fun _ _ z => by cases z) e
  have stk : ∀ b ∈ fp, b ∉ frs X.stack := fun b hb z => by
    rcases List.mem_cons.mp (I.stkSub b z) with e | e
    · exact (f b hb).2.1 e
    · exact (f b hb).2.2.1 e
  refine ⟨⟨I.ok.mod, B.kind, I.ok.glob, I.ok.blt, Nat.le_refl _, fun x y c h1 h2 => I.ok.inj x y c (hc x c h1) (hc y c h2), fun x hx => ?_, fun x c h => (by cases h), I.ok.hd, I.ok.frames, .inl rfl, fun b hb => ⟨Nat.ne_of_lt (hlt b hb), fun x c e => (f b hb).2.2.2.2.1 x c (hc x c e)⟩,
      I.bs, Nat.le_trans I.ok.bsz I.sz, fun b o e hb => ?_, stk, I.stack, I.stkFree⟩, rfl, I.bare, Un.kept old, ⟨_, ns, fun i x v h1 h2 h3 => ?_⟩, fun x c e => ?_, I.hok.fresh (Nat.le_refl _), fun x c e => I.freeC x c (hc x c e), fun p hp => absurd (show p ∈ ([] : List (Addr × Obj)) from hp) (by simp), I.hok.kept old, ?_⟩
  · exact clOf_has (.inr (lookup_relabel_back B.nocell hx))
  · rcases (f b hb).2.2.2.1 with z | z
    · exact I.ok.noex b o e z
    · exact absurd (Nat.lt_of_lt_of_le (Heap.lt_size e) (Nat.le_trans I.ok.bsz z)) (Nat.lt_irrefl _)
  · have h2 : (ix.map fun o => o.bind fun j => (σ[j]?).bind id)[i]? = some (some v) := h2
    rw [List.getElem?_map] at h2
    cases ho : ix[i]? with
    | none => rw [ho] at h2; cases h2
    | some o =>
      rw [ho] at h2
      cases o with
      | none => cases h2
      | some j =>
        have h2 : (σ[j]?).bind id = some v := Option.some.inj h2
        have h2 : σ[j]? = some (some v) := by
          cases hs : σ[j]? with
          | none => rw [hs] at h2; cases h2
          | some w => rw [hs] at h2; cases h2; rfl
        obtain ⟨hN, hf⟩ := B.at_ i j x h1 ho
        have hk := B.frees (x, .free) (PySem.mem_of_lookup hf) rfl
        obtain ⟨m, hn, hl⟩ := I.loc
        obtain ⟨u, r, lk⟩ := hl j x v hN h2 (hk.elim (fun z => .inr (.inl z)) fun z => .inr (.inr z))
        refine ⟨u, r, .inr ?_⟩
        rcases lk with ⟨z, _⟩ | ⟨_, c, e, z⟩
        · rcases hk with hk | hk
          · exact absurd (hk.symm.trans z) (by decide)
          · exact absurd (hk.symm.trans z) (by decide)
        · obtain ⟨c', e'⟩ := clOf_has (env := X.env) (cs := []) (.inr (PySem.mem_of_lookup hf))
          have ec : c' = c := Option.some.inj ((hc x c' e').symm.trans e)
          subst ec
          refine ⟨lookup_relabel_free hf hk, c', e', ?_⟩
          obtain ⟨o, ho, hd⟩ := z
          exact ⟨o, old _ _ ho, hd⟩
  · obtain ⟨v, o, ho, hd⟩ := I.cell x c (hc x c e)
    exact ⟨v, o, old _ _ ho, hd⟩
  · show (inner ix σ).length = N'.length
    unfold inner
    rw [List.length_map]
    exact B.len

theorem blk_run {elt tg iter : Expr} {ifs : List Expr} {scope : Scope} {pos : Pos} {N' : List Str} {ix : List (Option Nat)} {g : TG} {tc : TT} {te : TE} {J : It} {fp : List Addr} {it : Addr} {tn : Nat → Heap → Prop} (B : BlkOk X N' ix scope)
    (hg : ∀ C s H fp, PG (cxComp X N' scope C s H fp) tg g) (hi : ∀ C s H fp, PIfs (cxComp X N' scope C s H fp) ifs tc) (he : ∀ C s H fp, PE (cxComp X N' scope C s H fp) elt te) (hc : X.calm = true)
    (I : Inv X pins σ H s) (T : Turn X.prog X.w X.K tg J fp it tn) (st : tn 0 s.heap) (f : ∀ b ∈ fp, FpOk X pins H b) {Q : VK} {E : Value → Shared → Prop}
    (w : ∃ W : Nat → Nat → St → Hp → Prop, (∃ m, W 0 m (inner ix σ) (upd H s.heap.objs.size (.lst []))) ∧ ∀ i m σi H, W i m σi H →
      (J.stop i H ∧ Q (.ref s.heap.objs.size) H) ∨ (J.go i H ∧ ∃ N : St → Hp → Prop, (∀ σ' H', N σ' H' → ∃ m', m' < m ∧ W (i + 1) m' σ' H') ∧ ∀ x H', J.yld i H x H' → g x σi H' fun σ2 H2 => tc σ2 H2 fun b H3 =>
        if b = true then te σ2 H3 fun v H4 => ∃ ys, H4 s.heap.objs.size = some (.lst ys) ∧ ys.length < sizeLine ∧ N σ2 (upd H4 s.heap.objs.size (.lst (ys ++ [v]))) else N σ2 H3))
    {RR : Value → Addr → Result → Shared → Prop} (hRR : ∀ C H' s' m, Inv X pins σ H' s' → FpOk X pins H' C → s'.heap.Ns C m → Q (.ref s.heap.objs.size) H' → RR (.ref s.heap.objs.size) C (.ok .next) s') :
    wpAny (model X.prog X.w) X.A (newList []) (fun acc s₃ => wpAny (model X.prog X.w) X.A (newFunctionEnv scope X.env.globals (clOf X.env scope.names []) [] X.env.qual none .none (some X.env)) (fun cenv s₄ =>
      codeAny (model X.prog X.w) X.A (.compStart (.ListComp elt [⟨tg, iter, ifs, 0⟩] scope pos) 0 (.ref it) acc { cenv with scope := relabel scope X.env }) (RR acc cenv.locals) s₄) E s₃) E s := by
  obtain ⟨W, ⟨m0, w0⟩, turn⟩ := w
  have flt : ∀ b ∈ fp, b < s.heap.objs.size := fun b hb => by
    obtain ⟨o, ho, _⟩ := T.obj 0 _ st b hb
    exact Heap.lt_size ho
  have I3 : Inv X pins σ (upd H s.heap.objs.size (.lst [])) { s with heap := s.heap.push { cls := .type "list", data := .seq ([] : List Value).toArray }, toks := s.toks } := I.lnew .nil (Nat.zero_le _)
  have hfr : ∀ b ∈ fp, (upd H s.heap.objs.size (.lst [])) b = none := fun b hb => by rw [upd_ne (Nat.ne_of_lt (flt b hb))]; exact (f b hb).1
  have f3 : ∀ b ∈ fp, FpOk X pins (upd H s.heap.objs.size (.lst [])) b := fun b hb => ⟨hfr b hb, (f b hb).2⟩
  refine wpAny_newObj_type (wpAny_newFunctionEnv B.nocell (by intro y hy; simp at hy) (fun h₁ hns₁ hsb₁ => ?_) B.kind)
  dsimp only at hns₁ hsb₁ ⊢
  generalize hH3 : s.heap.push { cls := .type "list", data := .seq ([] : List Value).toArray } = h3 at hns₁ hsb₁ I3 ⊢
  obtain ⟨s3, e3⟩ : ∃ s3 : Shared, s3 = { s with heap := h3 } := ⟨_, rfl⟩
  obtain rfl : h3 = s3.heap := by rw [e3]
  have I3 : Inv X pins σ (upd H s.heap.objs.size (.lst [])) s3 := by
    have e : s3 = { s with heap := s3.heap, toks := s.toks } := e3
    rw [e]; exact I3
  have eT : s3.toks = s.toks := by rw [e3]
  have eS : ({ s with heap := h₁, toks := s.toks + ([] : List (Str × Value)).length } : Shared) = { s3 with heap := h₁, toks := s3.toks + ([] : List (Str × Value)).length } := by rw [e3]
  rw [eS]
  have hz3 : s3.heap.objs.size = s.heap.objs.size + 1 := by rw [← hH3]; exact Heap.size_push _ _
  have old : ∀ b o, s3.heap.get? b = some o → h₁.get? b = some o := fun b o e => hsb₁.extBut b o (Nat.ne_of_lt (Heap.lt_size e)) (Heap.get?_push_of_some _ e)
  have st3 : tn 0 s3.heap := T.keep _ _ _ st fun b hb o e => by rw [← hH3]; exact Heap.get?_push_of_some _ e
  have st4 : tn 0 h₁ := T.keep _ _ _ st3 fun b _ o e => old b o e
  have I4 := I3.blk (tk := s3.toks + ([] : List (Str × Value)).length) B f3 (fun b hb => Nat.lt_of_lt_of_le (flt b hb) (by rw [hz3]; exact Nat.le_succ _)) (show h₁.Ns s3.heap.objs.size (fun _ => none) from hns₁) old
  generalize hX' : cxComp X N' scope s3.heap.objs.size s3 (upd H s.heap.objs.size (.lst [])) fp = X' at I4
  have eX : X'.prog = X.prog ∧ X'.w = X.w ∧ X'.K = X.K ∧ X'.A = X.A ∧ X'.calm = X.calm ∧ X'.env = compEnvC scope (clOf X.env scope.names []) s3.heap.objs.size X.env ∧ X'.ex = fp ∧ X'.outer = X.stack ∧ X'.s₀ = s3 ∧ X'.H₀ = upd H s.heap.objs.size (.lst []) ∧ X'.pn = [] ∧ X'.xe = (fun _ _ => False) := by
    rw [← hX']; exact ⟨rfl, rfl, rfl, rfl, rfl, rfl, rfl, rfl, rfl, rfl, rfl, rfl⟩
  have hg' : PG X' tg g := hX' ▸ hg _ _ _ _
  have hi' : PIfs X' ifs tc := hX' ▸ hi _ _ _ _
  have he' : PE X' elt te := hX' ▸ he _ _ _ _
  obtain ⟨e1, e2, e3, e4, e5, e6, e7, e8, e9, e10, e11, e12⟩ := eX
  have stat : ∀ {H' : Hp}, (∀ b ∈ fp, H' b = none) → ∀ b ∈ fp, FpOk X' [] H' b := fun {H'} hn b hb => by
    have q := I4.ok.exf b (by rw [e7]; exact hb)
    refine ⟨hn b hb, q.1, ?_, .inl (by rw [e7]; exact hb), q.2, fun p hp => ?_⟩
    · exact I4.ok.exfs b (by rw [e7]; exact hb)
    · rw [e11] at hp; simp at hp
  have loop : codeAny (model X.prog X.w) X.A (.compLoop (.ListComp elt [⟨tg, iter, ifs, 0⟩] scope pos) 0 (.ref it) (.ref s.heap.objs.size) (compEnvC scope (clOf X.env scope.names []) s3.heap.objs.size X.env))
      (RR (.ref s.heap.objs.size) s3.heap.objs.size) { s3 with heap := h₁, toks := s3.toks + ([] : List (Str × Value)).length } := by
    refine loop_go (fun n s' => ∃ i σi Hi, Inv X' [] σi Hi s' ∧ tn i s'.heap ∧ (∀ b ∈ fp, Hi b = none) ∧ W i n σi Hi) ?_ m0 ⟨0, _, _, I4, st4, hfr, w0⟩
    rintro n s5 ⟨i, σ5, H5, I5, st5, fr5, w5⟩
    rcases turn i n σ5 H5 w5 with ⟨stop, qn⟩ | ⟨go, N, hN, step⟩
    · have d := T.done X' e1 e2 e3 (by rw [e5]; exact hc) i [] s5 σ5 H5 (fun _ _ => False) I5 (stat fr5) st5 stop
      rw [e4] at d
      (refine thn d ?_; rintro r s6 ⟨hr, I6⟩)
      subst hr
      have u := I6.base
      rw [e7, e9, e10] at u
      have u : Un (frs X'.outer) fp (upd H s.heap.objs.size (.lst [])) H5 s3.heap s6.heap := u
      rw [e8] at u
      have ok6 := I6.hok
      rw [e1, e2] at ok6
      have I7 : Inv X pins σ H5 s6 := I3.call' (ch := fp) (by have := I6.os; rw [e9] at this; exact this) u ok6 I6.bare fun b hb => ⟨(f b hb).2.2.2.1, (f b hb).2.1, (f b hb).2.2.2.2.1, (f b hb).2.2.2.2.2⟩
      have hfree := I6.free
      obtain ⟨m, hm, _⟩ := I6.loc
      rw [e6] at hfree hm
      exact hRR _ H5 s6 m I7 (I3.fpOk (Nat.le_refl _) hfree) hm qn
    · have d := T.item X' e1 e2 e3 (by rw [e5]; exact hc) i [] s5 σ5 H5 (fun _ _ => False) I5 (stat fr5) st5 go
      rw [e4] at d
      (refine thn d ?_; rintro r s6 ⟨u, hr, h6⟩)
      subst hr
      (refine thn h6 ?_; rintro _ s7 ⟨x, H7, I7, r7, y7, st7, fr7⟩)
      have I7' := I7.pinned (stat fr7) (T.obj _ _ st7)
      have a := hg' _ s7 σ5 H7 x u _ I7' r7 (step x H7 y7)
      rw [e1, e2, e4, e6, e12] at a
      (refine thn a ?_; rintro _ s8 ⟨σ8, H8, I8, q8⟩)
      have t := hi' _ s8 σ8 H8 _ I8 q8
      rw [e1, e2, e4, e6, e12] at t
      have again : ∀ {σ9 : St} {H9 : Hp} {s9 : Shared}, Inv X' ([] ++ pinsAt fp s7.heap) σ9 H9 s9 → N σ9 H9 → ∃ m, m < n ∧ ∃ i σi Hi, Inv X' [] σi Hi s9 ∧ tn i s9.heap ∧ (∀ b ∈ fp, Hi b = none) ∧ W i m σi Hi := fun {σ9 H9 s9} I9 n9 => by
        obtain ⟨m', hm, w9⟩ := hN σ9 H9 n9
        refine ⟨m', hm, i + 1, σ9, H9, I9.unpinned, T.keep _ _ _ st7 fun b hb o e => (I9.pin (b, o) (List.mem_append_right _ (List.mem_append_right _ (mem_pinsAt hb e)))).1, fun b hb => ?_, w9⟩
        obtain ⟨o, e, d⟩ := T.obj _ _ st7 b hb
        exact (I9.pin (b, o) (List.mem_append_right _ (List.mem_append_right _ (mem_pinsAt hb e)))).2.1
      (refine thn t ?_; rintro ok s9 ⟨H9, I9, q9⟩)
      cases ok with
      | false =>
        rw [if_neg Bool.false_ne_true] at q9 ⊢
        exact again I9 q9
      | true =>
        rw [if_pos rfl] at q9 ⊢
        have v := he' _ s9 σ8 H9 _ I9 q9
        rw [e1, e2, e4, e6, e12] at v
        (refine thn v ?_; rintro y s10 ⟨z, H10, I10, r10, ys, hD, hz, q10⟩)
        have ap := mt_append _ s10 σ8 H10 (.ref s.heap.objs.size) [z] (.ref s.heap.objs.size) [y] (fun _ H' => N σ8 H') I10 rfl (.cons r10 .nil) ⟨_, ys, z, rfl, rfl, hD, hz, q10⟩
        rw [e1, e2, e4, e12] at ap
        (refine thn ap ?_; rintro _ s11 ⟨_, H11, I11, _, q11⟩; exact again I11 q11)
  exact codeAny_compStart_list loop (T.self _ _ _ _ _ st4 loop)

variable {elt tg iter : Expr} {ifs : List Expr} {scope : Scope} {pos : Pos} {N' : List Str} {ix : List (Option Nat)} {wi : TI} {g : TG} {tc : TT} {te : TE}
theorem pe_comp (B : BlkOk X N' ix scope) (hc : X.calm = true) (hw : PI X tg iter wi)
    (hg : ∀ C s H fp, PG (cxComp X N' scope C s H fp) tg g) (hi : ∀ C s H fp, PIfs (cxComp X N' scope C s H fp) ifs tc) (he : ∀ C s H fp, PE (cxComp X N' scope C s H fp) elt te)
    (hs : ∀ x, foldedSetIterable iter X.env x = pure x := by intro _; rfl) :
    PE X (.ListComp elt [⟨tg, iter, ifs, 0⟩] scope pos) (tComp ix wi g tc te) := by
  intro pins s σ H Q I h
  rw [eval_ListComp]
  refine wpAny_comprehension_free (use := none) rfl hs (closure_is fun y hy e => I.ok.has y.1 (B.frees y hy e)) B.kind B.names ?_
  refine thn (hw pins s σ H _ I h) fun v s1 h1 => thn h1 fun itv s2 h2 => ?_
  obtain ⟨it, fp, tn, J, H2, e, I2, T, st2, f2, q2⟩ := h2
  subst e
  refine blk_run B hg hi he hc I2 T st2 f2 (Q := Q) (q2 _ I2.fresh) fun C H' s' m I' fC hm q => ?_
  refine ⟨m, hm, fun h' sb => ⟨.ref s2.heap.objs.size, H', ?_, rfl, q⟩⟩
  exact I'.turned (t' := s'.toks) (it := C) (fun b o hb e => sb.extBut b o hb e) fC.1 fC.2.1 fC.2.2.2.1 fC.2.2.2.2.1 fC.2.2.2.2.2
/-- name = [..], the name a local of its own on that row -/
noncomputable def tAsgC (i : Nat) (t : TE) : TS := fun D σ H => t σ H fun x H1 => D.nx (σ.set i (some x)) H1
theorem ps_setC {i : Nat} {y : Str} {py spos : Pos} (B : BlkOk X N' ix scope) (hc : X.calm = true) (hN : X.N.Nodup) (hy : X.N[i]? = some y) (hl : Loc X.env.scope y) (hw : PI X tg iter wi)
    (hg : ∀ C s H fp, PG (cxComp X N' scope C s H fp) tg g) (hi : ∀ C s H fp, PIfs (cxComp X N' scope C s H fp) ifs tc) (he : ∀ C s H fp, PE (cxComp X N' scope C s H fp) elt te)
    (hsw : swapsWith (.ListComp elt [⟨tg, iter, ifs, 0⟩] scope pos) (some (.Name y py)) spos.line X.env = pure true := by rfl)
    (hf : X.fn y = true ∨ X.env.scope.names.lookup y = some .local := by first | exact .inl rfl | exact .inr rfl | assumption)
    (hs : ∀ x, foldedSetIterable iter X.env x = pure x := by intro _; rfl) :
    PS X (.Assign [.Name y py] (.ListComp elt [⟨tg, iter, ifs, 0⟩] scope pos) spos) (tAsgC i (tComp ix wi g tc te)) := by
  intro pins s σ H D I h
  rw [exec_Assign_Name_used _ _ _ _ hsw]
  refine wpAny_bind (wpAny_standAt (wpAny_bind ?_))
  show wpAny _ X.A (do let _ ← comprehension (.ListComp elt [⟨tg, iter, ifs, 0⟩] scope pos) scope X.env _ (newList []) false (eval iter X.env) (some (assign (.Name y py) X.env))) _ _ s
  refine wpAny_bind (wpAny_mono (wpAny_comprehension_free (use := some (assign (.Name y py) X.env)) (Q := fun _ s' => SP X pins D .next s') rfl hs (closure_is fun y hy e => I.ok.has y.1 (B.frees y hy e)) B.kind B.names
    (thn (hw pins s σ H _ I h) fun v s1 h1 => thn h1 fun itv s2 h2 => ?_)) (fun _ s' hq => wpAny_pure (wpAny_pure hq)) fun _ _ e => e)
  obtain ⟨it, fp, tn, J, H2, e, I2, T, st2, f2, q2⟩ := h2
  subst e
  refine blk_run B hg hi he hc I2 T st2 f2 (Q := fun x H1 => D.nx (σ.set i (some x)) H1) (q2 _ I2.fresh) fun C H' s' m I' fC hm q => ?_
  show wpAny _ _ (assign (.Name y py) X.env (.ref s2.heap.objs.size)) _ _ _
  (refine wpAny_assign_Name (store_ok2 I' hN hy hl (v := .ref s2.heap.objs.size) rfl (?_) hf); rintro s'' I'' ⟨a, hsame, ha⟩)
  have hCa : C ≠ a := by
    rcases ha with z | z
    · rw [z]; exact fC.2.1
    · intro e; exact fC.2.2.2.2.1 _ _ z e.symm
  refine ⟨m, hm.sameBut hsame hCa, fun h' sb => ⟨_, H', ?_, q⟩⟩
  exact I''.turned (t' := s''.toks) (it := C) (fun b o hb e => sb.extBut b o hb e) fC.1 fC.2.1 fC.2.2.2.1 fC.2.2.2.2.1 fC.2.2.2.2.2
end
end L2

namespace L2
open PySem PySem.Spec PyProof.Rows
section
variable {X : Cx} {pos : Pos}
/-- (a, b, ..) = a list of that length -/
noncomputable def gLst (K : PySem.W.Frag) (n : Nat) (t : TGs) : TG := fun v σ H Q => ∃ a xs, v = .ref a ∧ SqL K H a xs ∧ xs.length = n ∧ t xs σ H Q
theorem pg_list {es : List Expr} {k : Nat} {t : TGs} {n : Nat} (hc : X.calm = true) (h : PGs X es t)
    (hn : (assignEach es X.env).length = n := by rfl) (hst : (assignEach es X.env).findIdx? (·.1) = none := by rfl) : PG X (.Tuple es k pos) (gLst X.K n t) := by
  intro pins s σ H v u Q I r hw
  obtain ⟨a, xs, e1, hq, hl, hw⟩ := hw
  subst e1
  cases r
  obtain ⟨its, rv, ht, hz⟩ := I.list hq
  rw [PyProof.Rows.assign_Tuple]
  refine wpAny_bind (wpAny_standAt ?_)
  unfold unpack
  have hsz : (assignEach es X.env).length = its.toArray.size := by simp [hn, ← hl, rv.length]
  rw [hsz, hst]
  refine wpAny_bind (wpAny_holding (PySem.W.kun_itemsOf (I.ok.hd hc) ht.isList fun h' hx => ?_))
  have I1 : Inv X pins σ H { s with heap := h' } := I.kept (t' := s.toks) fun b o e => hx b o (Nat.ne_of_lt (Heap.lt_size e)) e
  exact h pins _ σ H xs _ Q I1 (by simpa using rv) hw
theorem pg_or {tg : Expr} {t t' : TG} (h : PG X tg t) (h' : PG X tg t') : PG X tg (fun v σ H Q => t v σ H Q ∨ t' v σ H Q) := by
  intro pins s σ H v u Q I r q
  rcases q with q | q
  · exact h pins s σ H v u Q I r q
  · exact h' pins s σ H v u Q I r q
/-- what a loop walks: a list or a tuple -/
noncomputable def iSeq (K : PySem.W.Frag) (tl : TE) : TI := fun σ H R => tl σ H fun x H1 => ∃ a, x = .ref a ∧ (((∃ xs, SqL K H1 a xs) ∧ R (Itl K a) H1) ∨ ((∃ xs, SqT K H1 a xs) ∧ R (Itt K a) H1))
theorem pi_seq {tg l : Expr} {tl : TE} (hl : PE X l tl) : PI X tg l (iSeq X.K tl) := by
  intro pins s σ H R I h
  (refine thn (hl pins s σ H _ I h) ?_; rintro v s1 ⟨x, H1, I1, r1, q1⟩)
  obtain ⟨a, e, ⟨⟨xs, hq⟩, q⟩ | ⟨⟨xs, hq⟩, q⟩⟩ := q1
  · subst e
    cases r1
    obtain ⟨its, rv, p, hz⟩ := I1.list hq
    refine wpAny_pyIter_list p.isList ?_
    refine ⟨s1.heap.objs.size, [s1.heap.objs.size], _, _, H1, rfl, I1.kept (t' := s1.toks) fun b o e => Heap.get?_push_of_some _ e, turn_list a _, ⟨_, Heap.get?_push_size _ rfl, rfl, rfl⟩, fun b hb => ?_, q⟩
    have e : b = s1.heap.objs.size := by simpa using hb
    subst e
    exact I1.fpOk (Nat.le_refl _) (I1.hok.fresh (Nat.le_refl _))
  · subst e
    cases r1
    obtain ⟨its, rv, p, hz⟩ := I1.tuple hq
    refine wpAny_pyIter_tuple (show s1.heap.IsTuple a its.toArray from p) ?_
    refine ⟨s1.heap.objs.size, [s1.heap.objs.size], _, _, H1, rfl, I1.kept (t' := s1.toks) fun b o e => Heap.get?_push_of_some _ e, turn_tuple a _, ⟨_, Heap.get?_push_size _ rfl, rfl, rfl⟩, fun b hb => ?_, q⟩
    have e : b = s1.heap.objs.size := by simpa using hb
    subst e
    exact I1.fpOk (Nat.le_refl _) (I1.hok.fresh (Nat.le_refl _))
/-- is True, is False: the right side a bool -/
theorem op_isB : OpR X (compareOp .Is) (fun x y H Q => ∃ b, y = .bl b ∧ Q (.bl (decide (x = .bl b))) H) := by
  intro pins s σ H x y v u Q I rx ry h
  obtain ⟨b, rfl, q⟩ := h
  cases ry
  refine wpAny_is_plain ?_ (fin_bl I q ?_)
  · cases x <;> first
      | (cases rx; rfl)
      | (obtain ⟨t, rfl⟩ := rx; rfl)
  · cases x <;> first
      | (obtain ⟨t, rfl⟩ := rx; rfl)
      | (cases rx; cases b <;> rfl)
      | (cases rx; rename_i c; cases b <;> cases c <;> rfl)
theorem op_isNotB : OpR X (compareOp .IsNot) (fun x y H Q => ∃ b, y = .bl b ∧ Q (.bl (!decide (x = .bl b))) H) := by
  intro pins s σ H x y v u Q I rx ry h
  obtain ⟨b, rfl, q⟩ := h
  cases ry
  refine wpAny_isNot_plain ?_ (fin_bl I q ?_)
  · cases x <;> first
      | (cases rx; rfl)
      | (obtain ⟨t, rfl⟩ := rx; rfl)
  · cases x <;> first
      | (obtain ⟨t, rfl⟩ := rx; rfl)
      | (cases rx; cases b <;> rfl)
      | (cases rx; rename_i c; cases b <;> cases c <;> rfl)
/-- all of a list of bools -/
theorem vals_bools : ∀ {bs : List Bool} {us : List Value}, Vals (bs.map V.bl) us → us = bs.map Value.bool
  | [], _, .nil => rfl
  | b :: bs, _, .cons r t => by cases r; rw [vals_bools t]; rfl
theorem call_all (hc : X.calm = true) : CallR X (.builtin "all") (fun xs H Q => ∃ (p : Addr) (bs : List Bool), xs = [.ref p] ∧ SqL X.K H p (bs.map V.bl) ∧ Q (.bl (bs.all id)) H) := by
  intro pins s σ H xs us Q I r h
  obtain ⟨p, bs, rfl, hq, q⟩ := h
  obtain ⟨u, rfl, rx⟩ := vals1 r
  cases rx
  obtain ⟨its, r', pl, hz⟩ := I.list hq
  have e := vals_bools r'
  subst e
  have hl := pl.isList
  have hlt : p < s.heap.objs.size := by obtain ⟨_, e, _⟩ := hl; exact Heap.lt_size e
  refine call_all_walk (wpAny_pyIter_list hl ?_)
  refine ⟨s.heap.objs.size, [s.heap.objs.size, p], [s.heap.objs.size], (bs.map Value.bool).toArray.size, _, _, fun i => (bs[i]?).getD true, rfl, Walks.list (A := X.A.in1) (I.ok.hd hc) _ p (Nat.ne_of_lt hlt) (bs.map Value.bool).toArray,
    ⟨⟨_, Heap.get?_push_size _ rfl, rfl, rfl⟩, hl.push _⟩, fun i v s' Q' E' hP hQ => ?_, fun h' tk hk => ?_⟩
  · have hP : (bs.map Value.bool)[i]? = some v := by simpa using hP
    rw [List.getElem?_map] at hP
    cases hb : bs[i]? with
    | none => rw [hb] at hP; cases hP
    | some b =>
      rw [hb] at hP; cases hP
      simp only [hb, Option.getD_some] at hQ
      exact wpAny_truthy_bool hQ
  · have e : ((List.range (bs.map Value.bool).toArray.size).all fun i => (bs[i]?).getD true) = bs.all id := by
      rw [List.size_toArray, List.length_map, Bool.eq_iff_iff, List.all_eq_true, List.all_eq_true]
      constructor
      · intro h b hb
        obtain ⟨i, hi, e⟩ := List.mem_iff_getElem.mp hb
        have := h i (List.mem_range.mpr hi)
        rw [List.getElem?_eq_getElem hi, e] at this
        exact this
      · intro h i hi
        have hi := List.mem_range.mp hi
        rw [List.getElem?_eq_getElem hi]
        exact h _ (List.getElem_mem hi)
    rw [e]
    refine ⟨.bl _, H, ?_, rfl, q⟩
    exact I.kept fun b x e => hk b x (fun hm => by rw [List.mem_singleton.mp hm] at e; exact Nat.lt_irrefl _ (Heap.lt_size e)) (Heap.get?_push_of_some _ e)
/-- sum of a list of ints -/
theorem call_sum (hc : X.calm = true) : CallR X (.builtin "sum") (fun xs H Q => ∃ (p : Addr) (ns : List Int), xs = [.ref p] ∧ SqL X.K H p (ns.map V.int) ∧ Q (.int ns.sum) H) := by
  intro pins s σ H xs us Q I r h
  obtain ⟨p, ns, rfl, hq, q⟩ := h
  obtain ⟨u, rfl, rx⟩ := vals1 r
  cases rx
  obtain ⟨its, r', pl, hz⟩ := I.list hq
  obtain ⟨m, F⟩ := I.fr
  have hi : IntsAre its ns := intsAre_of r'
  obtain ⟨ys, hx⟩ := hi.allInts.items
  have hl' : s.heap.IsList p (intItems ys) := hx ▸ pl.isList
  refine sum_intListG (I.ok.hd hc) hl' fun h' tk t' hk => ?_
  have e1 : ns = ys.toList.map (·.1) := by
    rw [← nums_intItems, ← hx]
    exact (show numsOf its.toArray.toList = ns from hi.numsOf).symm
  have e2 : preSum (numAt ys) ys.size = ns.sum := by
    rw [preSum_eq, List.take_of_length_le (by simp), e1]
  rw [e2]
  exact ⟨.int ns.sum, H, I.kept hk, ⟨_, rfl⟩, q⟩
/-- isinstance(e, T), T a built-in -/
noncomputable def kindOfV (K : PySem.W.Frag) (H : Hp) : V → String → Prop
  | .non, n => n = "NoneType"
  | .bl _, n => n = "bool"
  | .int _, n => n = "int"
  | .str _, n => n = "str"
  | .ref a, n => (n = "list" ∧ ((∃ xs, H a = some (.lst xs)) ∨ ∃ o xs, H a = some (.frz o (.lst xs)))) ∨ (n = "tuple" ∧ ∃ xs, H a = some (.tup xs)) ∨ (n = "dict" ∧ ∃ xs, H a = some (.dK xs))
  | _, _ => False
noncomputable def subK (n T : String) : Bool := n == T || (n == "bool" && T == "int")
theorem kit_sub {K : PySem.W.Frag} {n T : String} (hn : n = "NoneType" ∨ n = "bool" ∨ n = "int" ∨ n = "str" ∨ n = "list" ∨ n = "tuple" ∨ n = "dict") (hT : T = "int" ∨ T = "str" ∨ T = "bool" ∨ T = "list" ∨ T = "tuple" ∨ T = "dict") : PySem.W.kitOne K (.type n) (.type T) = some (subK n T) := by
  rcases hn with rfl | rfl | rfl | rfl | rfl | rfl | rfl <;> rcases hT with rfl | rfl | rfl | rfl | rfl | rfl <;> rfl
theorem call_isinst : CallR X (.builtin "isinstance") (fun xs H Q => ∃ x n T, xs = [x, .ty T] ∧ kindOfV X.K H x n ∧ (T = "int" ∨ T = "str" ∨ T = "bool" ∨ T = "list" ∨ T = "tuple" ∨ T = "dict") ∧ Q (.bl (subK n T)) H) := by
  intro pins s σ H xs us Q I r h
  obtain ⟨x, n, T, rfl, hk, hT, q⟩ := h
  obtain ⟨u, w, rfl, rx, rt⟩ := vals2 r
  cases rt
  have fin : ∀ tk, EP X pins σ Q (.bool (subK n T)) { s with toks := tk } := fun tk => ⟨.bl (subK n T), H, I.tok tk, rfl, q⟩
  cases x with
  | non => cases (show n = "NoneType" from hk); exact isinst_ok I rx .non (kit_sub (by simp) hT) fin
  | bl b => cases (show n = "bool" from hk); exact isinst_ok I rx (.bl b) (kit_sub (by simp) hT) fin
  | int i => cases (show n = "int" from hk); exact isinst_ok I rx (.int i) (kit_sub (by simp) hT) fin
  | str i => cases (show n = "str" from hk); exact isinst_ok I rx (.str i) (kit_sub (by simp) hT) fin
  | ref a =>
    rcases (show (n = "list" ∧ ((∃ xs, H a = some (.lst xs)) ∨ ∃ o xs, H a = some (.frz o (.lst xs)))) ∨ (n = "tuple" ∧ ∃ xs, H a = some (.tup xs)) ∨ (n = "dict" ∧ ∃ xs, H a = some (.dK xs)) from hk) with ⟨e, ⟨xs, h1⟩ | ⟨o, xs, h1⟩⟩ | ⟨e, xs, h1⟩ | ⟨e, xs, h1⟩
    · cases e; exact isinst_ok I rx (.lst h1) (kit_sub (by simp) hT) fin
    · cases e; exact isinst_ok I rx (.frz h1) (kit_sub (by simp) hT) fin
    · cases e; exact isinst_ok I rx (.tup h1) (kit_sub (by simp) hT) fin
    · cases e; exact isinst_ok I rx (.dK h1) (kit_sub (by simp) hT) fin
  | _ => exact (show False from hk).elim
end
end L2

namespace L3
open PySem L2
set_option maxHeartbeats 4000000

/-! ### deep values: tuples are values, lists, dicts and instances are addresses -/
inductive D where
  | non | bl (b : Bool) | int (i : Int) | str (x : Str) | tup (xs : List D) | ref (a : Addr) | ty (n : String)
inductive DO where
  | lst (xs : List D) | fro (xs : List D) | dic (kvs : List (Key × D)) | dit (kvs : List (List Key × D)) | ins (C : Addr) (fs : List (Str × D))
noncomputable abbrev Gp := Addr → Option DO
noncomputable def gup (G : Gp) (a : Addr) (o : DO) : Gp := fun b => if b = a then some o else G b
theorem gup_same {G : Gp} {a : Addr} {o : DO} : gup G a o a = some o := by unfold gup; rw [if_pos rfl]
theorem gup_ne {G : Gp} {a b : Addr} {o : DO} (h : b ≠ a) : gup G a o b = G b := by unfold gup; rw [if_neg h]
theorem gup_gup {G : Gp} {a : Addr} {o u : DO} : gup (gup G a o) a u = gup G a u := by
  funext b; unfold gup; split <;> rfl
theorem gne {G : Gp} {a b : Addr} {o : DO} (h : G a = some o) (h' : G b = none) : a ≠ b := by
  intro e; subst e; rw [h] at h'; cases h'

structure Le (H H' : Hp) : Prop where
  tups : ∀ b xs, H b = some (.tup xs) → H' b = some (.tup xs)
  frzs : ∀ b o u, H b = some (.frz o u) → H' b = some (.frz o u)
theorem Le.refl (H : Hp) : Le H H := ⟨fun _ _ h => h, fun _ _ _ h => h⟩
theorem Le.trans {H H1 H2 : Hp} (a : Le H H1) (b : Le H1 H2) : Le H H2 := ⟨fun c xs h => b.tups c xs (a.tups c xs h), fun c o u h => b.frzs c o u (a.frzs c o u h)⟩
theorem Le.sqT {K : PySem.W.Frag} {H H' : Hp} (l : Le H H') {a : Addr} {xs : List V} (h : SqT K H a xs) : SqT K H' a xs := by
  rcases h with (h | ⟨o, h⟩) | h
  · exact .inl (.inl (l.tups _ _ h))
  · exact .inl (.inr ⟨o, l.frzs _ _ _ h⟩)
  · exact .inr h
theorem Le.fresh {H : Hp} {p : Addr} {o : HO} (h : H p = none) : Le H (upd H p o) :=
  ⟨fun b xs q => by rw [upd_ne (ne_of_none q h)]; exact q, fun b o u q => by rw [upd_ne (ne_of_none q h)]; exact q⟩

mutual
noncomputable def RelD (K : PySem.W.Frag) (H : Hp) : D → V → Prop
  | .non, v => v = .non
  | .bl b, v => v = .bl b
  | .int i, v => v = .int i
  | .str x, v => v = .str x
  | .ref a, v => v = .ref a
  | .ty n, v => v = .ty n
  | .tup ds, v => ∃ a xs, v = .ref a ∧ SqT K H a xs ∧ RelDs K H ds xs
noncomputable def RelDs (K : PySem.W.Frag) (H : Hp) : List D → List V → Prop
  | [], xs => xs = []
  | d :: ds, xs => ∃ x r, xs = x :: r ∧ RelD K H d x ∧ RelDs K H ds r
end

section
variable {K : PySem.W.Frag} {H H' : Hp}
mutual
theorem RelD.le (l : Le H H') : ∀ {d : D} {v : V}, RelD K H d v → RelD K H' d v
  | .non, _, h => by simpa [RelD] using h
  | .bl _, _, h => by simpa [RelD] using h
  | .int _, _, h => by simpa [RelD] using h
  | .str _, _, h => by simpa [RelD] using h
  | .ref _, _, h => by simpa [RelD] using h
  | .ty _, _, h => by simpa [RelD] using h
  | .tup ds, _, h => by
    rw [RelD] at h ⊢
    obtain ⟨a, xs, e, s, r⟩ := h
    exact ⟨a, xs, e, l.sqT s, RelDs.le l r⟩
theorem RelDs.le (l : Le H H') : ∀ {ds : List D} {xs : List V}, RelDs K H ds xs → RelDs K H' ds xs
  | [], _, h => by simpa [RelDs] using h
  | d :: ds, _, h => by
    rw [RelDs] at h ⊢
    obtain ⟨x, r, e, h1, h2⟩ := h
    exact ⟨x, r, e, RelD.le l h1, RelDs.le l h2⟩
end
theorem RelDs.nil : RelDs K H [] [] := by rw [RelDs]
theorem RelDs.cons {d : D} {ds : List D} {x : V} {xs : List V} (h : RelD K H d x) (t : RelDs K H ds xs) : RelDs K H (d :: ds) (x :: xs) := by
  rw [RelDs]; exact ⟨x, xs, rfl, h, t⟩
theorem RelDs.inv_nil {xs : List V} (h : RelDs K H [] xs) : xs = [] := by rw [RelDs] at h; exact h
theorem RelDs.inv_cons {d : D} {ds : List D} {xs : List V} (h : RelDs K H (d :: ds) xs) : ∃ x r, xs = x :: r ∧ RelD K H d x ∧ RelDs K H ds r := by rw [RelDs] at h; exact h
theorem RelDs.length : ∀ {ds : List D} {xs : List V}, RelDs K H ds xs → ds.length = xs.length
  | [], _, h => by rw [h.inv_nil]; rfl
  | _ :: _, _, h => by obtain ⟨x, r, e, _, t⟩ := h.inv_cons; rw [e, List.length_cons, List.length_cons, t.length]
theorem RelDs.get : ∀ {ds : List D} {xs : List V} {i : Nat} {d : D}, RelDs K H ds xs → ds[i]? = some d → ∃ x, xs[i]? = some x ∧ RelD K H d x
  | [], _, _, _, _, e => by simp at e
  | _ :: _, _, 0, _, h, e => by
    obtain ⟨x, r, rfl, h1, t⟩ := h.inv_cons
    simp at e; subst e; exact ⟨x, rfl, h1⟩
  | _ :: _, _, i + 1, d, h, e => by
    obtain ⟨x, r, rfl, h1, t⟩ := h.inv_cons
    obtain ⟨y, h2, h3⟩ := RelDs.get (i := i) t (by simpa using e)
    exact ⟨y, by simpa using h2, h3⟩
theorem RelDs.of : ∀ {ds : List D} {xs : List V}, ds.length = xs.length → (∀ (i : Nat) d x, ds[i]? = some d → xs[i]? = some x → RelD K H d x) → RelDs K H ds xs
  | [], [], _, _ => .nil
  | [], _ :: _, h, _ => by simp at h
  | _ :: _, [], h, _ => by simp at h
  | d :: ds, x :: xs, h, f => .cons (f 0 d x rfl rfl) (RelDs.of (by simpa using h) fun i d x a b => f (i + 1) d x (by simpa using a) (by simpa using b))
theorem RelDs.append : ∀ {ds es : List D} {xs ys : List V}, RelDs K H ds xs → RelDs K H es ys → RelDs K H (ds ++ es) (xs ++ ys)
  | [], _, _, _, h, t => by rw [h.inv_nil]; exact t
  | _ :: _, _, _, _, h, t => by
    obtain ⟨x, r, rfl, h1, h2⟩ := h.inv_cons
    exact .cons h1 (h2.append t)
theorem RelDs.set {d : D} {x : V} (q : RelD K H d x) : ∀ {ds : List D} {xs : List V} (i : Nat), RelDs K H ds xs → RelDs K H (ds.set i d) (xs.set i x)
  | [], _, _, h => by rw [h.inv_nil]; exact .nil
  | _ :: _, _, 0, h => by
    obtain ⟨x, r, rfl, h1, h2⟩ := h.inv_cons
    exact .cons q h2
  | _ :: _, _, i + 1, h => by
    obtain ⟨x, r, rfl, h1, h2⟩ := h.inv_cons
    exact .cons h1 (h2.set q i)
theorem RelDs.take : ∀ {ds : List D} {xs : List V} (n : Nat), RelDs K H ds xs → RelDs K H (ds.take n) (xs.take n)
  | _, _, 0, _ => by simpa using RelDs.nil
  | [], _, _ + 1, h => by rw [h.inv_nil]; exact .nil
  | _ :: _, _, n + 1, h => by
    obtain ⟨x, r, rfl, h1, h2⟩ := h.inv_cons
    exact .cons h1 (h2.take n)
theorem RelDs.drop : ∀ {ds : List D} {xs : List V} (n : Nat), RelDs K H ds xs → RelDs K H (ds.drop n) (xs.drop n)
  | _, _, 0, h => by simpa using h
  | [], _, _ + 1, h => by rw [h.inv_nil]; exact .nil
  | _ :: _, _, n + 1, h => by
    obtain ⟨x, r, rfl, h1, h2⟩ := h.inv_cons
    exact h2.drop n
theorem RelDs.eraseIdx : ∀ {ds : List D} {xs : List V} (n : Nat), RelDs K H ds xs → RelDs K H (ds.eraseIdx n) (xs.eraseIdx n)
  | [], _, _, h => by rw [h.inv_nil]; exact .nil
  | _ :: _, _, 0, h => by
    obtain ⟨x, r, rfl, h1, h2⟩ := h.inv_cons
    exact h2
  | _ :: _, _, n + 1, h => by
    obtain ⟨x, r, rfl, h1, h2⟩ := h.inv_cons
    exact .cons h1 (h2.eraseIdx n)
theorem RelDs.reverse : ∀ {ds : List D} {xs : List V}, RelDs K H ds xs → RelDs K H ds.reverse xs.reverse
  | [], _, h => by rw [h.inv_nil]; exact .nil
  | _ :: _, _, h => by
    obtain ⟨x, r, rfl, h1, h2⟩ := h.inv_cons
    rw [List.reverse_cons, List.reverse_cons]
    exact h2.reverse.append (.cons h1 .nil)
theorem RelDs.dropLast {ds : List D} {xs : List V} (h : RelDs K H ds xs) : RelDs K H ds.dropLast xs.dropLast := by
  rw [List.dropLast_eq_take, List.dropLast_eq_take, h.length]; exact h.take _
theorem RelDs.rep {ds : List D} {xs : List V} (h : RelDs K H ds xs) : ∀ k : Nat, RelDs K H (List.replicate k ds).flatten (List.replicate k xs).flatten
  | 0 => .nil
  | k + 1 => by rw [List.replicate_succ, List.replicate_succ, List.flatten_cons, List.flatten_cons]; exact h.append (h.rep k)

noncomputable def RelPs {κ : Type} (K : PySem.W.Frag) (H : Hp) (ps : List (κ × D)) (qs : List (κ × V)) : Prop := ps.map (·.1) = qs.map (·.1) ∧ RelDs K H (ps.map (·.2)) (qs.map (·.2))
theorem RelPs.le {κ : Type} (l : Le H H') {ps : List (κ × D)} {qs : List (κ × V)} (h : RelPs K H ps qs) : RelPs K H' ps qs := ⟨h.1, RelDs.le l h.2⟩
end

noncomputable def ObjD (K : PySem.W.Frag) (H : Hp) (a : Addr) : DO → Prop
  | .lst ds => ∃ xs, H a = some (.lst xs) ∧ RelDs K H ds xs
  | .fro ds => ∃ o xs, H a = some (.frz o (.lst xs)) ∧ RelDs K H ds xs
  | .dic kvs => ∃ ys, H a = some (.dK ys) ∧ RelPs K H kvs ys
  | .dit kvs => ∃ ys, H a = some (.dT ys) ∧ RelPs K H kvs ys
  | .ins C fs => ∃ dx ys, H a = some (.ins C dx ys) ∧ RelPs K H fs ys
noncomputable def Con (K : PySem.W.Frag) (G : Gp) (H : Hp) : Prop := ∀ a o, G a = some o → ObjD K H a o
section
variable {K : PySem.W.Frag} {G : Gp} {H H' : Hp} {a p : Addr} {o : DO}
theorem ObjD.some (h : ObjD K H a o) : ∃ u, H a = some u := by
  cases o with
  | lst ds => obtain ⟨xs, e, _⟩ := h; exact ⟨_, e⟩
  | fro ds => obtain ⟨_, xs, e, _⟩ := h; exact ⟨_, e⟩
  | dic ds => obtain ⟨xs, e, _⟩ := h; exact ⟨_, e⟩
  | dit ds => obtain ⟨xs, e, _⟩ := h; exact ⟨_, e⟩
  | ins C ds => obtain ⟨_, xs, e, _⟩ := h; exact ⟨_, e⟩
theorem ObjD.stay (h : ObjD K H a o) (l : Le H H') (e : H' a = H a) : ObjD K H' a o := by
  cases o with
  | lst ds => obtain ⟨xs, q, r⟩ := h; exact ⟨xs, e.trans q, RelDs.le l r⟩
  | fro ds => obtain ⟨o, xs, q, r⟩ := h; exact ⟨o, xs, e.trans q, RelDs.le l r⟩
  | dic ds => obtain ⟨xs, q, r⟩ := h; exact ⟨xs, e.trans q, r.le l⟩
  | dit ds => obtain ⟨xs, q, r⟩ := h; exact ⟨xs, e.trans q, r.le l⟩
  | ins C ds => obtain ⟨dx, xs, q, r⟩ := h; exact ⟨dx, xs, e.trans q, r.le l⟩
theorem Con.fresh (c : Con K G H) (h : H p = none) : G p = none := by
  cases e : G p with
  | none => rfl
  | some o => obtain ⟨u, q⟩ := (c p o e).some; rw [h] at q; cases q
theorem Con.stay (c : Con K G H) (l : Le H H') (e : ∀ a o, G a = some o → H' a = H a) : Con K G H' := fun a o q => (c a o q).stay l (e a o q)
/-- a new object that G does not see -/
theorem Con.side {u : HO} (c : Con K G H) (h : H p = none) : Con K G (upd H p u) := c.stay (Le.fresh h) fun a o q => by
  obtain ⟨u, e⟩ := (c a o q).some
  exact upd_ne (ne_of_none e h)
/-- an object is laid or written -/
theorem Con.put {u : HO} (c : Con K G H) (l : Le H (upd H p u)) (n : ObjD K (upd H p u) p o) : Con K (gup G p o) (upd H p u) := fun b q e => by
  by_cases hb : b = p
  · subst hb; rw [gup_same] at e; cases e; exact n
  · rw [gup_ne hb] at e
    exact (c b q e).stay l (upd_ne hb)
theorem Le.lst {xs ys : List V} (h : H p = some (.lst xs)) : Le H (upd H p (.lst ys)) :=
  ⟨fun b zs q => by by_cases e : b = p
                    · subst e; rw [h] at q; cases q
                    · rw [upd_ne e]; exact q,
   fun b o u q => by by_cases e : b = p
                     · subst e; rw [h] at q; cases q
                     · rw [upd_ne e]; exact q⟩
theorem Le.dK {xs ys : List (Key × V)} (h : H p = some (.dK xs)) : Le H (upd H p (.dK ys)) :=
  ⟨fun b zs q => by by_cases e : b = p
                    · subst e; rw [h] at q; cases q
                    · rw [upd_ne e]; exact q,
   fun b o u q => by by_cases e : b = p
                     · subst e; rw [h] at q; cases q
                     · rw [upd_ne e]; exact q⟩
theorem Le.ins {C dx C' dx' : Addr} {xs ys : List (Str × V)} (h : H p = some (.ins C dx xs)) : Le H (upd H p (.ins C' dx' ys)) :=
  ⟨fun b zs q => by by_cases e : b = p
                    · subst e; rw [h] at q; cases q
                    · rw [upd_ne e]; exact q,
   fun b o u q => by by_cases e : b = p
                     · subst e; rw [h] at q; cases q
                     · rw [upd_ne e]; exact q⟩
theorem Con.lstNew {ds : List D} {xs : List V} (c : Con K G H) (h : H p = none) (r : RelDs K H ds xs) : Con K (gup G p (.lst ds)) (upd H p (.lst xs)) :=
  c.put (Le.fresh h) ⟨xs, upd_same, RelDs.le (Le.fresh h) r⟩
theorem Con.lstSet {ds : List D} {xs ys : List V} (c : Con K G H) (h : H p = some (.lst ys)) (r : RelDs K H ds xs) : Con K (gup G p (.lst ds)) (upd H p (.lst xs)) :=
  c.put (Le.lst h) ⟨xs, upd_same, RelDs.le (Le.lst h) r⟩
end

noncomputable abbrev DSt := List (Option D)
noncomputable def RelSt (K : PySem.W.Frag) (H : Hp) (σd : DSt) (σ : St) : Prop := σd.length = σ.length ∧ ∀ (i : Nat) d, σd[i]? = some (some d) → ∃ v, σ[i]? = some (some v) ∧ RelD K H d v
theorem RelSt.le {K : PySem.W.Frag} {H H' : Hp} {σd : DSt} {σ : St} (h : RelSt K H σd σ) (l : Le H H') : RelSt K H' σd σ :=
  ⟨h.1, fun i d e => let ⟨v, a, b⟩ := h.2 i d e; ⟨v, a, RelD.le l b⟩⟩
theorem RelSt.set {K : PySem.W.Frag} {H : Hp} {σd : DSt} {σ : St} {d : D} {v : V} (h : RelSt K H σd σ) (i : Nat) (r : RelD K H d v) : RelSt K H (σd.set i (some d)) (σ.set i (some v)) := by
  refine ⟨by rw [List.length_set, List.length_set]; exact h.1, fun j e q => ?_⟩
  rw [List.getElem?_set] at q
  split at q
  · rename_i hij; subst hij
    split at q
    · rename_i hl; cases q
      exact ⟨v, by rw [List.getElem?_set_self (by rw [← h.1]; exact hl)], r⟩
    · cases q
  · rename_i hij
    obtain ⟨w, a, b⟩ := h.2 j e q
    exact ⟨w, by rw [List.getElem?_set_ne hij]; exact a, b⟩

noncomputable abbrev DK := D → Gp → Prop
noncomputable abbrev TE3 := DSt → Gp → DK → Prop
noncomputable abbrev TT3 := DSt → Gp → (Bool → Gp → Prop) → Prop
noncomputable abbrev TA3 := DSt → Gp → (List D → Gp → Prop) → Prop
structure Ends3 where
  nx : DSt → Gp → Prop
  rt : DK
  bk : DSt → Gp → Prop := fun _ _ => False
  ct : DSt → Gp → Prop := fun _ _ => False
noncomputable abbrev TS3 := Ends3 → DSt → Gp → Prop

noncomputable def FutE (K : PySem.W.Frag) (H : Hp) (q : DK) (Q : VK) : Prop := ∀ d G' v H', RelD K H' d v → Con K G' H' → Le H H' → q d G' → Q v H'
noncomputable def FutT (K : PySem.W.Frag) (H : Hp) (q : Bool → Gp → Prop) (Q : Bool → Hp → Prop) : Prop := ∀ b G' H', Con K G' H' → Le H H' → q b G' → Q b H'
noncomputable def FutA (K : PySem.W.Frag) (H : Hp) (q : List D → Gp → Prop) (Q : List V → Hp → Prop) : Prop := ∀ ds G' vs H', RelDs K H' ds vs → Con K G' H' → Le H H' → q ds G' → Q vs H'
noncomputable def FutS (K : PySem.W.Frag) (H : Hp) (q : DSt → Gp → Prop) (Q : St → Hp → Prop) : Prop := ∀ σd G' σ H', RelSt K H' σd σ → Con K G' H' → Le H H' → q σd G' → Q σ H'
theorem FutE.le {K : PySem.W.Frag} {H H1 : Hp} {q : DK} {Q : VK} (f : FutE K H q Q) (l : Le H H1) : FutE K H1 q Q := fun d G v H' r c l' => f d G v H' r c (l.trans l')
theorem FutS.le {K : PySem.W.Frag} {H H1 : Hp} {q : DSt → Gp → Prop} {Q : St → Hp → Prop} (f : FutS K H q Q) (l : Le H H1) : FutS K H1 q Q := fun d G v H' r c l' => f d G v H' r c (l.trans l')
structure FutD (K : PySem.W.Frag) (H : Hp) (d : Ends3) (D : Ends) : Prop where
  nx : FutS K H d.nx D.nx
  rt : FutE K H d.rt D.rt
  bk : FutS K H d.bk D.bk
  ct : FutS K H d.ct D.ct
theorem FutD.le {K : PySem.W.Frag} {H H1 : Hp} {d : Ends3} {D : Ends} (f : FutD K H d D) (l : Le H H1) : FutD K H1 d D := ⟨f.nx.le l, f.rt.le l, f.bk.le l, f.ct.le l⟩

noncomputable def lowE (K : PySem.W.Frag) (t : TE3) : TE := fun σ H Q => ∃ σd G q, RelSt K H σd σ ∧ Con K G H ∧ t σd G q ∧ FutE K H q Q
noncomputable def lowT (K : PySem.W.Frag) (t : TT3) : TT := fun σ H Q => ∃ σd G q, RelSt K H σd σ ∧ Con K G H ∧ t σd G q ∧ FutT K H q Q
noncomputable def lowA (K : PySem.W.Frag) (t : TA3) : TA := fun σ H Q => ∃ σd G q, RelSt K H σd σ ∧ Con K G H ∧ t σd G q ∧ FutA K H q Q
noncomputable def lowS (K : PySem.W.Frag) (t : TS3) : TS := fun D σ H => ∃ σd G d, RelSt K H σd σ ∧ Con K G H ∧ t d σd G ∧ FutD K H d D
noncomputable abbrev R3 := D → D → Gp → DK → Prop
noncomputable def lowR (K : PySem.W.Frag) (r : R3) : R2 := fun x y H Q => ∃ d e G q, RelD K H d x ∧ RelD K H e y ∧ Con K G H ∧ r d e G q ∧ FutE K H q Q
noncomputable abbrev U3 := D → Gp → DK → Prop
noncomputable def lowU (K : PySem.W.Frag) (r : U3) : V → Hp → VK → Prop := fun x H Q => ∃ d G q, RelD K H d x ∧ Con K G H ∧ r d G q ∧ FutE K H q Q
noncomputable abbrev C3 := List D → Gp → DK → Prop
noncomputable def lowC (K : PySem.W.Frag) (r : C3) : List V → Hp → VK → Prop := fun xs H Q => ∃ ds G q, RelDs K H ds xs ∧ Con K G H ∧ r ds G q ∧ FutE K H q Q

/-! ### expressions -/
noncomputable def dVar (i : Nat) : TE3 := fun σ G q => match σ[i]? with | some (some d) => q d G | _ => False
noncomputable def dC (d : D) : TE3 := fun _ G q => q d G
noncomputable def dOp (r : R3) (ta tb : TE3) : TE3 := fun σ G q => ta σ G fun x G1 => tb σ G1 fun y G2 => r x y G2 q
noncomputable def dUn (r : U3) (ta : TE3) : TE3 := fun σ G q => ta σ G fun x G1 => r x G1 q
noncomputable def dNil : TA3 := fun _ G q => q [] G
noncomputable def dCons (ta : TE3) (tr : TA3) : TA3 := fun σ G q => ta σ G fun x G1 => tr σ G1 fun xs G2 => q (x :: xs) G2
noncomputable def dTup (t : TA3) : TE3 := fun σ G q => t σ G fun xs G1 => xs.length ≤ sizeLine ∧ q (.tup xs) G1
noncomputable def dLst (t : TA3) : TE3 := fun σ G q => t σ G fun xs G1 => xs.length ≤ sizeLine ∧ ∀ p, G1 p = none → q (.ref p) (gup G1 p (.lst xs))
noncomputable def dB (t : TE3) : TT3 := fun σ G q => t σ G fun x G1 => match x with | .bl c => q c G1 | _ => False
noncomputable def dAnd (t u : TT3) : TT3 := fun σ G q => t σ G fun c G1 => if c = true then u σ G1 q else q false G1
noncomputable def dOr (t u : TT3) : TT3 := fun σ G q => t σ G fun c G1 => if c = true then q true G1 else u σ G1 q
noncomputable def dNot (t : TT3) : TT3 := fun σ G q => t σ G fun c G1 => q (!c) G1
noncomputable def dAndV (ta tb : TE3) : TE3 := fun σ G q => ta σ G fun x G1 => match x with | .bl c => if c = true then tb σ G1 q else q (.bl false) G1 | _ => False
noncomputable def dOrV (ta tb : TE3) : TE3 := fun σ G q => ta σ G fun x G1 => match x with | .bl c => if c = true then q (.bl true) G1 else tb σ G1 q | _ => False
noncomputable def dNotV (ta : TE3) : TE3 := fun σ G q => ta σ G fun x G1 => match x with | .bl c => q (.bl (!c)) G1 | _ => False
noncomputable def dIf (t : TT3) (ta tb : TE3) : TE3 := fun σ G q => t σ G fun c G1 => if c = true then ta σ G1 q else tb σ G1 q

section
variable {K : PySem.W.Frag} {σ : St} {H : Hp} {Q : VK}
theorem low_var {i : Nat} (h : lowE K (dVar i) σ H Q) : tVar i σ H Q := by
  obtain ⟨σd, G, q, rs, c, t, f⟩ := h
  unfold dVar at t
  split at t
  · rename_i d e
    obtain ⟨v, hv, r⟩ := rs.2 i d e
    exact ⟨v, hv, f d G v H r c (Le.refl H) t⟩
  · exact t.elim
theorem low_c {d : D} {v : V} (r : ∀ H, RelD K H d v) (h : lowE K (dC d) σ H Q) : tC v σ H Q := by
  obtain ⟨σd, G, q, rs, c, t, f⟩ := h
  exact f d G v H (r H) c (Le.refl H) t
theorem low_op {r : R3} {ta tb : TE3} (h : lowE K (dOp r ta tb) σ H Q) : tOp (lowR K r) (lowE K ta) (lowE K tb) σ H Q := by
  obtain ⟨σd, G, q, rs, c, t, f⟩ := h
  exact ⟨σd, G, _, rs, c, t, fun d G1 v H1 r1 c1 l1 t1 => ⟨σd, G1, _, rs.le l1, c1, t1, fun e G2 u H2 r2 c2 l2 t2 => ⟨d, e, G2, q, RelD.le l2 r1, r2, c2, t2, f.le (l1.trans l2)⟩⟩⟩
theorem low_un {r : U3} {ta : TE3} (h : lowE K (dUn r ta) σ H Q) : tUn (lowU K r) (lowE K ta) σ H Q := by
  obtain ⟨σd, G, q, rs, c, t, f⟩ := h
  exact ⟨σd, G, _, rs, c, t, fun d G1 v H1 r1 c1 l1 t1 => ⟨d, G1, q, r1, c1, t1, f.le l1⟩⟩
theorem low_nil {Q : List V → Hp → Prop} (h : lowA K dNil σ H Q) : tNil σ H Q := by
  obtain ⟨σd, G, q, rs, c, t, f⟩ := h
  exact f [] G [] H .nil c (Le.refl H) t
theorem low_cons {ta : TE3} {tr : TA3} {Q : List V → Hp → Prop} (h : lowA K (dCons ta tr) σ H Q) : tCons (lowE K ta) (lowA K tr) σ H Q := by
  obtain ⟨σd, G, q, rs, c, t, f⟩ := h
  exact ⟨σd, G, _, rs, c, t, fun d G1 v H1 r1 c1 l1 t1 => ⟨σd, G1, _, rs.le l1, c1, t1, fun ds G2 vs H2 r2 c2 l2 t2 => f (d :: ds) G2 (v :: vs) H2 (.cons (RelD.le l2 r1) r2) c2 (l1.trans l2) t2⟩⟩
theorem low_tup {ta : TA3} (h : lowE K (dTup ta) σ H Q) : tTup (lowA K ta) σ H Q := by
  obtain ⟨σd, G, q, rs, c, t, f⟩ := h
  refine ⟨σd, G, _, rs, c, t, fun ds G1 vs H1 r1 c1 l1 t1 => ⟨by rw [← r1.length]; exact t1.1, fun p hp => ?_⟩⟩
  refine f (.tup ds) G1 (.ref p) _ ?_ (c1.side hp) (l1.trans (Le.fresh hp)) t1.2
  rw [RelD]
  exact ⟨p, vs, rfl, SqT.of upd_same, RelDs.le (Le.fresh hp) r1⟩
theorem low_lst {ta : TA3} (h : lowE K (dLst ta) σ H Q) : tLst (lowA K ta) σ H Q := by
  obtain ⟨σd, G, q, rs, c, t, f⟩ := h
  refine ⟨σd, G, _, rs, c, t, fun ds G1 vs H1 r1 c1 l1 t1 => ⟨by rw [← r1.length]; exact t1.1, fun p hp => ?_⟩⟩
  exact f (.ref p) _ (.ref p) _ (by rw [RelD]) (c1.lstNew hp r1) (l1.trans (Le.fresh hp)) (t1.2 p (c1.fresh hp))
theorem RelD.bl_inv {c : Bool} {v : V} (h : RelD K H (.bl c) v) : v = .bl c := by rw [RelD] at h; exact h
theorem low_andT {t u : TT3} {Q : Bool → Hp → Prop} (h : lowT K (dAnd t u) σ H Q) : tAnd (lowT K t) (lowT K u) σ H Q := by
  obtain ⟨σd, G, q, rs, c, t, f⟩ := h
  refine ⟨σd, G, _, rs, c, t, fun b G1 H1 c1 l1 t1 => ?_⟩
  cases b with
  | true => rw [if_pos rfl] at t1 ⊢; exact ⟨σd, G1, q, rs.le l1, c1, t1, fun b G2 H2 c2 l2 t2 => f b G2 H2 c2 (l1.trans l2) t2⟩
  | false => rw [if_neg Bool.false_ne_true] at t1 ⊢; exact f _ _ _ c1 l1 t1
theorem low_orT {t u : TT3} {Q : Bool → Hp → Prop} (h : lowT K (dOr t u) σ H Q) : tOr (lowT K t) (lowT K u) σ H Q := by
  obtain ⟨σd, G, q, rs, c, t, f⟩ := h
  refine ⟨σd, G, _, rs, c, t, fun b G1 H1 c1 l1 t1 => ?_⟩
  cases b with
  | false => rw [if_neg Bool.false_ne_true] at t1 ⊢; exact ⟨σd, G1, q, rs.le l1, c1, t1, fun b G2 H2 c2 l2 t2 => f b G2 H2 c2 (l1.trans l2) t2⟩
  | true => rw [if_pos rfl] at t1 ⊢; exact f _ _ _ c1 l1 t1
theorem low_notT {t : TT3} {Q : Bool → Hp → Prop} (h : lowT K (dNot t) σ H Q) : tNot (lowT K t) σ H Q := by
  obtain ⟨σd, G, q, rs, c, t, f⟩ := h
  exact ⟨σd, G, _, rs, c, t, fun b G1 H1 c1 l1 t1 => f _ _ _ c1 l1 t1⟩
theorem low_if {t : TT3} {ta tb : TE3} (h : lowE K (dIf t ta tb) σ H Q) : tIf (lowT K t) (lowE K ta) (lowE K tb) σ H Q := by
  obtain ⟨σd, G, q, rs, c, t, f⟩ := h
  refine ⟨σd, G, _, rs, c, t, fun b G1 H1 c1 l1 t1 => ?_⟩
  cases b with
  | true => rw [if_pos rfl] at t1 ⊢; exact ⟨σd, G1, q, rs.le l1, c1, t1, f.le l1⟩
  | false => rw [if_neg Bool.false_ne_true] at t1 ⊢; exact ⟨σd, G1, q, rs.le l1, c1, t1, f.le l1⟩
end
end L3
namespace L3
open PySem L2
set_option maxHeartbeats 4000000
/-! ### statements -/
noncomputable def dNext : TS3 := fun E σ G => E.nx σ G
/-- a reading stops here -/
noncomputable def Go (k : DSt → Gp → Prop) (σ : DSt) (G : Gp) : Prop := k σ G
noncomputable def dSeq (t u : TS3) : TS3 := fun E σ G => t { E with nx := Go (u E) } σ G
noncomputable def dDrop (te : TE3) : TS3 := fun E σ G => te σ G fun _ G1 => E.nx σ G1
noncomputable def dRet (te : TE3) : TS3 := fun E σ G => te σ G E.rt
noncomputable def dRetN : TS3 := fun E _ G => E.rt .non G
noncomputable def dIfS (c : TT3) (t u : TS3) : TS3 := fun E σ G => c σ G fun b G1 => if b = true then t E σ G1 else u E σ G1
noncomputable abbrev TG3 := D → DSt → Gp → (DSt → Gp → Prop) → Prop
noncomputable abbrev TGs3 := List D → DSt → Gp → (DSt → Gp → Prop) → Prop
noncomputable def lowG (K : PySem.W.Frag) (t : TG3) : TG := fun v σ H Q => ∃ d σd G q, RelD K H d v ∧ RelSt K H σd σ ∧ Con K G H ∧ t d σd G q ∧ FutS K H q Q
noncomputable def lowGs (K : PySem.W.Frag) (t : TGs3) : TGs := fun vs σ H Q => ∃ ds σd G q, RelDs K H ds vs ∧ RelSt K H σd σ ∧ Con K G H ∧ t ds σd G q ∧ FutS K H q Q
noncomputable def jName (i : Nat) : TG3 := fun d σ G q => q (σ.set i (some d)) G
noncomputable def jNil : TGs3 := fun ds σ G q => ds = [] ∧ q σ G
noncomputable def jCons (t : TG3) (u : TGs3) : TGs3 := fun ds σ G q => match ds with | d :: r => t d σ G fun σ' G' => u r σ' G' q | [] => False
noncomputable abbrev TSet3 := D → D → D → Gp → (Gp → Prop) → Prop
noncomputable def lowSet (K : PySem.W.Frag) (t : TSet3) : TSet := fun o i v H Q => ∃ d e x G q, RelD K H d o ∧ RelD K H e i ∧ RelD K H x v ∧ Con K G H ∧ t d e x G q ∧ ∀ G' H', Con K G' H' → Le H H' → q G' → Q H'
noncomputable def jSub (to ti : TE3) (t : TSet3) : TG3 := fun d σ G q => to σ G fun o G1 => ti σ G1 fun i G2 => t o i d G2 fun G3 => q σ G3
noncomputable def dAsg (te : TE3) (g : TG3) : TS3 := fun E σ G => te σ G fun x G1 => g x σ G1 E.nx

section
variable {K : PySem.W.Frag} {σ : St} {H : Hp} {E : Ends}
theorem low_next (h : lowS K dNext E σ H) : tNext E σ H := by
  obtain ⟨σd, G, d, rs, c, t, f⟩ := h
  exact f.nx _ _ _ _ rs c (Le.refl H) t
theorem low_seq {t u : TS3} (h : lowS K (dSeq t u) E σ H) : tSeq (lowS K t) (lowS K u) E σ H := by
  obtain ⟨σd, G, d, rs, c, t, f⟩ := h
  exact ⟨σd, G, _, rs, c, t, fun σd' G' σ' H' rs' c' l' t' => ⟨σd', G', d, rs', c', t', f.le l'⟩, f.rt, f.bk, f.ct⟩
theorem low_drop {te : TE3} (h : lowS K (dDrop te) E σ H) : tDrop (lowE K te) E σ H := by
  obtain ⟨σd, G, d, rs, c, t, f⟩ := h
  exact ⟨σd, G, _, rs, c, t, fun x G1 v H1 r1 c1 l1 t1 => f.nx _ _ _ _ (rs.le l1) c1 l1 t1⟩
theorem low_ret {te : TE3} (h : lowS K (dRet te) E σ H) : tRet (lowE K te) E σ H := by
  obtain ⟨σd, G, d, rs, c, t, f⟩ := h
  exact ⟨σd, G, _, rs, c, t, f.rt⟩
theorem low_ifS {tc : TT3} {t u : TS3} (h : lowS K (dIfS tc t u) E σ H) : tIfS (lowT K tc) (lowS K t) (lowS K u) E σ H := by
  obtain ⟨σd, G, d, rs, c, t, f⟩ := h
  refine ⟨σd, G, _, rs, c, t, fun b G1 H1 c1 l1 t1 => ?_⟩
  cases b with
  | true => rw [if_pos rfl] at t1 ⊢; exact ⟨σd, G1, d, rs.le l1, c1, t1, f.le l1⟩
  | false => rw [if_neg Bool.false_ne_true] at t1 ⊢; exact ⟨σd, G1, d, rs.le l1, c1, t1, f.le l1⟩
theorem low_jName {i : Nat} {v : V} {Q : St → Hp → Prop} (h : lowG K (jName i) v σ H Q) : gName i v σ H Q := by
  obtain ⟨d, σd, G, q, r, rs, c, t, f⟩ := h
  exact f _ _ _ _ (rs.set i r) c (Le.refl H) t
theorem low_jNil {vs : List V} {Q : St → Hp → Prop} (h : lowGs K jNil vs σ H Q) : gNil vs σ H Q := by
  obtain ⟨ds, σd, G, q, r, rs, c, ⟨e, t⟩, f⟩ := h
  subst e
  exact ⟨r.inv_nil, f _ _ _ _ rs c (Le.refl H) t⟩
theorem low_jCons {t : TG3} {u : TGs3} {vs : List V} {Q : St → Hp → Prop} (h : lowGs K (jCons t u) vs σ H Q) : gCons (lowG K t) (lowGs K u) vs σ H Q := by
  obtain ⟨ds, σd, G, q, r, rs, c, t, f⟩ := h
  cases ds with
  | nil => exact t.elim
  | cons d ds =>
    obtain ⟨x, xs, rfl, r1, r2⟩ := r.inv_cons
    exact ⟨x, xs, rfl, d, σd, G, _, r1, rs, c, t, fun σd' G' σ' H' rs' c' l' t' => ⟨ds, σd', G', q, RelDs.le l' r2, rs', c', t', f.le l'⟩⟩
theorem low_jSub {to ti : TE3} {t : TSet3} {v : V} {Q : St → Hp → Prop} (h : lowG K (jSub to ti t) v σ H Q) : gSub (lowE K to) (lowE K ti) (lowSet K t) v σ H Q := by
  obtain ⟨d, σd, G, q, r, rs, c, t, f⟩ := h
  exact ⟨σd, G, _, rs, c, t, fun o G1 vo H1 r1 c1 l1 t1 => ⟨σd, G1, _, rs.le l1, c1, t1, fun i G2 vi H2 r2 c2 l2 t2 => ⟨o, i, d, G2, _, RelD.le l2 r1, r2, RelD.le (l1.trans l2) r, c2, t2, fun G3 H3 c3 l3 t3 =>
    f _ _ _ _ (rs.le (l1.trans (l2.trans l3))) c3 (l1.trans (l2.trans l3)) t3⟩⟩⟩
theorem low_asg {te : TE3} {g : TG3} (h : lowS K (dAsg te g) E σ H) : tAsg (lowE K te) (lowG K g) E σ H := by
  obtain ⟨σd, G, d, rs, c, t, f⟩ := h
  exact ⟨σd, G, _, rs, c, t, fun x G1 v H1 r1 c1 l1 t1 => ⟨x, σd, G1, _, r1, rs.le l1, c1, t1, f.nx.le l1⟩⟩
end

/-! ### while -/

/-! ### for -/
/-- what is walked: its items; the list (if it is one) that must stay as it is -/
structure IT where
  items : List D
  ok : Gp → Prop
structure ItRel (K : PySem.W.Frag) (H0 : Hp) (it : IT) (J : It) : Prop where
  go : ∀ (i : Nat) G H, Le H0 H → Con K G H → it.ok G → i < it.items.length → J.go i H
  stop : ∀ (i : Nat) G H, Le H0 H → Con K G H → it.ok G → it.items.length ≤ i → J.stop i H
  yld : ∀ (i : Nat) G H x H', Le H0 H → Con K G H → it.ok G → i < it.items.length → J.yld i H x H' → Con K G H' ∧ Le H H' ∧ ∃ d, it.items[i]? = some d ∧ RelD K H' d x
noncomputable abbrev TI3 := DSt → Gp → (IT → Gp → Prop) → Prop
noncomputable def lowI (K : PySem.W.Frag) (t : TI3) : TI := fun σ H R => ∃ σd G r, RelSt K H σd σ ∧ Con K G H ∧ t σd G r ∧ ∀ it J G' H', ItRel K H' it J → Con K G' H' → Le H H' → r it G' → R J H'
noncomputable def forL (ok : Gp → Prop) (g : TG3) (tb : TS3) (E : Ends3) : List D → DSt → Gp → Prop
  | [], σ, G => ok G ∧ E.nx σ G
  | x :: r, σ, G => ok G ∧ g x σ G fun σ1 G1 => tb { E with nx := forL ok g tb E r, ct := forL ok g tb E r, bk := E.nx } σ1 G1
noncomputable def dFor (wi : TI3) (g : TG3) (tb : TS3) : TS3 := fun E σ G => wi σ G fun it G1 => forL it.ok g tb E it.items σ G1
theorem low_for {K : PySem.W.Frag} {wi : TI3} {g : TG3} {tb : TS3} {σ : St} {H : Hp} {E : Ends} (h : lowS K (dFor wi g tb) E σ H) : tFor (lowI K wi) (lowG K g) (lowS K tb) E σ H := by
  obtain ⟨σd, G, d, rs, cc, t, f⟩ := h
  refine ⟨σd, G, _, rs, cc, t, fun it J G1 H1 ir c1 l1 t1 => ?_⟩
  refine ⟨fun i m σ' H' => ∃ σd' G', Le H1 H' ∧ RelSt K H' σd' σ' ∧ Con K G' H' ∧ i + m = it.items.length ∧ forL it.ok g tb d (it.items.drop i) σd' G', ⟨it.items.length, σd, G1, Le.refl _, rs.le l1, c1, by omega, by rw [List.drop_zero]; exact t1⟩, ?_⟩
  rintro i m σ2 H2 ⟨σd2, G2, l2, rs2, c2, e2, t2⟩
  by_cases hi : i < it.items.length
  · rw [List.drop_eq_getElem_cons hi] at t2
    obtain ⟨ok2, t2⟩ := t2
    refine .inr ⟨ir.go i G2 H2 l2 c2 ok2 hi, fun σ' H' => ∃ σd' G', Le H1 H' ∧ RelSt K H' σd' σ' ∧ Con K G' H' ∧ forL it.ok g tb d (it.items.drop (i + 1)) σd' G', ?_, ?_⟩
    · rintro σ' H' ⟨σd', G', a1, a2, a3, a4⟩
      exact ⟨m - 1, by omega, σd', G', a1, a2, a3, by omega, a4⟩
    · intro x H3 y
      obtain ⟨c3, l3, e, he, r3⟩ := ir.yld i G2 H2 x H3 l2 c2 ok2 hi y
      rw [List.getElem?_eq_getElem hi] at he
      cases he
      refine ⟨_, σd2, G2, _, r3, rs2.le l3, c3, t2, fun σd4 G4 σ4 H4 rs4 c4 l4 t4 => ?_⟩
      have l14 : Le H1 H4 := l2.trans (l3.trans l4)
      have key : FutS K H4 (forL it.ok g tb d (it.items.drop (i + 1))) (fun σ' H' => ∃ σd' G', Le H1 H' ∧ RelSt K H' σd' σ' ∧ Con K G' H' ∧ forL it.ok g tb d (it.items.drop (i + 1)) σd' G') :=
        fun σd5 G5 σ5 H5 rs5 c5 l5 t5 => ⟨σd5, G5, l14.trans l5, rs5, c5, t5⟩
      exact ⟨σd4, G4, _, rs4, c4, t4, key, f.rt.le (l1.trans l14), f.nx.le (l1.trans l14), key⟩
  · rw [List.drop_eq_nil_of_le (by omega)] at t2
    exact .inl ⟨ir.stop i G2 H2 l2 c2 t2.1 (by omega), f.nx _ _ _ _ rs2 c2 (l1.trans l2) t2.2⟩

theorem RelDs.at_ {K : PySem.W.Frag} {H : Hp} {ds : List D} {xs : List V} {i : Nat} {x : V} (h : RelDs K H ds xs) (e : xs[i]? = some x) : ∃ d, ds[i]? = some d ∧ RelD K H d x := by
  have hl : i < ds.length := by rw [h.length]; exact (List.getElem?_eq_some_iff.mp e).1
  obtain ⟨y, hy, r⟩ := h.get (List.getElem?_eq_getElem hl)
  rw [e] at hy; cases hy
  exact ⟨_, List.getElem?_eq_getElem hl, r⟩
/-- the tuple, or the list, that is walked -/
theorem itrel_tup {K : PySem.W.Frag} {H0 : Hp} {a : Addr} {ds : List D} {xs : List V} (s : SqT K H0 a xs) (r : RelDs K H0 ds xs) : ItRel K H0 ⟨ds, fun _ => True⟩ (Itt K a) where
  go := fun i G H l c _ hi => ⟨xs, xs[i]'(by rw [← r.length]; exact hi), l.sqT s, List.getElem?_eq_getElem _⟩
  stop := fun i G H l c _ hi => ⟨xs, l.sqT s, by rw [← r.length]; exact hi⟩
  yld := fun i G H x H' l c _ hi y => by
    obtain ⟨e, y⟩ := y
    subst e
    have hx := y xs (l.sqT s)
    obtain ⟨d, hd, rd⟩ := (RelDs.le l r).at_ hx
    exact ⟨c, Le.refl _, d, hd, rd⟩
noncomputable def seqOf : Option DO → Option (List D)
  | some (.lst xs) => some xs
  | some (.fro xs) => some xs
  | _ => none
theorem sql_of {K : PySem.W.Frag} {G : Gp} {H : Hp} {a : Addr} {ds : List D} (c : Con K G H) (h : seqOf (G a) = some ds) : ∃ xs, SqL K H a xs ∧ RelDs K H ds xs := by
  cases e : G a with
  | none => rw [e] at h; cases h
  | some o =>
    rw [e] at h
    have q := c a o e
    cases o with
    | lst xs => cases h; obtain ⟨ys, q, r⟩ := q; exact ⟨ys, .inl (.inl q), r⟩
    | fro xs => cases h; obtain ⟨o, ys, q, r⟩ := q; exact ⟨ys, .inl (.inr ⟨o, q⟩), r⟩
    | dic _ => cases h
    | dit _ => cases h
    | ins _ _ => cases h
theorem itrel_list {K : PySem.W.Frag} {H0 : Hp} {a : Addr} {ds : List D} : ItRel K H0 ⟨ds, fun G => seqOf (G a) = some ds⟩ (Itl K a) where
  go := fun i G H l c ok hi => by
    obtain ⟨xs, s, r⟩ := sql_of c ok
    exact ⟨xs, xs[i]'(by rw [← r.length]; exact hi), s, List.getElem?_eq_getElem _⟩
  stop := fun i G H l c ok hi => by
    obtain ⟨xs, s, r⟩ := sql_of c ok
    exact ⟨xs, s, by rw [← r.length]; exact hi⟩
  yld := fun i G H x H' l c ok hi y => by
    obtain ⟨e, y⟩ := y
    subst e
    obtain ⟨xs, s, r⟩ := sql_of c ok
    obtain ⟨d, hd, rd⟩ := r.at_ (y xs s)
    exact ⟨c, Le.refl _, d, hd, rd⟩
noncomputable def rngD (lo : Int) (n : Nat) : List D := (List.range n).map fun (i : Nat) => .int (lo + i)
theorem itrel_range {K : PySem.W.Frag} {H0 : Hp} {lo : Int} {n : Nat} : ItRel K H0 ⟨rngD lo n, fun _ => True⟩ (Itr lo n) where
  go := fun i G H l c _ hi => by
    have : i < n := by simpa [rngD] using hi
    exact this
  stop := fun i G H l c _ hi => by
    have : n ≤ i := by simpa [rngD] using hi
    exact this
  yld := fun i G H x H' l c _ hi y => by
    obtain ⟨e, y⟩ := y
    subst e; subst y
    refine ⟨c, Le.refl _, .int (lo + i), ?_, by rw [RelD]⟩
    have : i < n := by simpa [rngD] using hi
    simp [rngD, this]
end L3
namespace L3
open PySem L2
set_option maxHeartbeats 4000000
/-! ### calls -/
/-- a def's promise: R is sure of what comes back -/
noncomputable abbrev Sp3 := List D → Gp → DK → Prop
noncomputable def lowSp (K : PySem.W.Frag) (S : Sp3) : Sp := fun vs H Q _ => ∃ ds G R, RelDs K H ds vs ∧ Con K G H ∧ S ds G R ∧ FutE K H R Q
noncomputable def dCall (S : Sp3) (dds : List D) (t : TA3) : TE3 := fun σ G q => t σ G fun ds G1 => ∃ R, S (ds ++ dds) G1 R ∧ ∀ d G', R d G' → q d G'
noncomputable def dMeth (C : Addr) (m : Str) (S : Sp3) (dds : List D) (ta : TE3) (t : TA3) : TE3 := fun σ G q => ta σ G fun x G1 => match x with
  | .ref a => (match G1 a with
    | some (.ins C' fs) => C' = C ∧ fs.lookup m = none ∧ t σ G1 fun ds G2 => ∃ R, S (.ref a :: (ds ++ dds)) G2 R ∧ ∀ d G', R d G' → q d G'
    | _ => False)
  | _ => False
noncomputable def dMake (C : Addr) (S : Sp3) (dds : List D) (t : TA3) : TE3 := fun σ G q => t σ G fun ds G1 => ∀ x, G1 x = none →
  ∃ R, S (.ref x :: (ds ++ dds)) (gup G1 x (.ins C [])) R ∧ ∀ d G', R d G' → d = .non ∧ q (.ref x) G'
noncomputable def putD (f : Str) (v : D) : List (Str × D) → List (Str × D)
  | [] => [(f, v)]
  | (g, u) :: r => if g = f then (g, v) :: r else (g, u) :: putD f v r
noncomputable def dFld (C : Addr) (ta : TE3) (f : Str) : TE3 := fun σ G q => ta σ G fun x G1 => match x with
  | .ref a => (match G1 a with
    | some (.ins C' fs) => C' = C ∧ (match fs.lookup f with | some d => q d G1 | none => False)
    | _ => False)
  | _ => False
noncomputable def dSetF (C : Addr) (ta tv : TE3) (f : Str) : TS3 := fun E σ G => tv σ G fun y G1 => ta σ G1 fun x G2 => match x with
  | .ref a => (match G2 a with
    | some (.ins C' fs) => C' = C ∧ fs.length < 1000 ∧ E.nx σ (gup G2 a (.ins C (putD f y fs)))
    | _ => False)
  | _ => False
noncomputable def dAugF (C : Addr) (ta tv : TE3) (r : R3) (f : Str) : TS3 := fun E σ G => ta σ G fun x G1 => match x with
  | .ref a => (match G1 a with
    | some (.ins C' fs) => C' = C ∧ (match fs.lookup f with
      | some d => tv σ G1 fun y G2 => r d y G2 fun z G3 => (match G3 a with
        | some (.ins C'' fs') => C'' = C ∧ fs'.length < 1000 ∧ E.nx σ (gup G3 a (.ins C (putD f z fs')))
        | _ => False)
      | none => False)
    | _ => False)
  | _ => False
section
variable {K : PySem.W.Frag} {σ : St} {H : Hp} {Q : VK} {E : Ends}
theorem low_call {S : Sp3} {dds : List D} {dvs : List V} {t : TA3} {XE : XK} (hd : ∀ H, RelDs K H dds dvs) (h : lowE K (dCall S dds t) σ H Q) : tCall (lowSp K S) dvs XE (lowA K t) σ H Q := by
  obtain ⟨σd, G, q, rs, c, t, f⟩ := h
  exact ⟨σd, G, _, rs, c, t, fun ds G1 vs H1 r1 c1 l1 ⟨R, s1, t1⟩ => ⟨_, G1, R, r1.append (hd H1), c1, s1, fun d G2 v H2 r2 c2 l2 t2 => f d G2 v H2 r2 c2 (l1.trans l2) (t1 d G2 t2)⟩⟩
theorem RelD.refI {a : Addr} : RelD K H (.ref a) (.ref a) := by rw [RelD]
theorem RelD.ref_inv {a : Addr} {v : V} (h : RelD K H (.ref a) v) : v = .ref a := by rw [RelD] at h; exact h
theorem RelPs.lookup_none {κ : Type} [BEq κ] {k : κ} : ∀ {ps : List (κ × D)} {qs : List (κ × V)}, RelPs K H ps qs → ps.lookup k = none → qs.lookup k = none
  | [], qs, h, _ => by
    cases qs with
    | nil => rfl
    | cons _ _ => have := h.1; simp at this
  | (g, d) :: ps, qs, h, e => by
    cases qs with
    | nil => have := h.1; simp at this
    | cons q qs =>
      obtain ⟨g', v⟩ := q
      have h1 := h.1
      simp only [List.map_cons, List.cons.injEq] at h1
      obtain ⟨rfl, h1⟩ := h1
      obtain ⟨x, r, e2, _, h2⟩ := (show RelDs K H (d :: ps.map (·.2)) (v :: qs.map (·.2)) from h.2).inv_cons
      cases e2
      rw [List.lookup_cons] at e ⊢
      cases hk : k == g with
      | true => rw [hk] at e; cases e
      | false => rw [hk] at e; exact RelPs.lookup_none ⟨h1, h2⟩ e
theorem RelPs.lookup {κ : Type} [BEq κ] {k : κ} {d : D} : ∀ {ps : List (κ × D)} {qs : List (κ × V)}, RelPs K H ps qs → ps.lookup k = some d → ∃ v, qs.lookup k = some v ∧ RelD K H d v
  | [], qs, h, e => by cases e
  | (g, d') :: ps, qs, h, e => by
    cases qs with
    | nil => have := h.1; simp at this
    | cons q qs =>
      obtain ⟨g', v⟩ := q
      have h1 := h.1
      simp only [List.map_cons, List.cons.injEq] at h1
      obtain ⟨rfl, h1⟩ := h1
      obtain ⟨x, r, e2, r1, h2⟩ := (show RelDs K H (d' :: ps.map (·.2)) (v :: qs.map (·.2)) from h.2).inv_cons
      cases e2
      rw [List.lookup_cons] at e ⊢
      cases hk : k == g with
      | true => rw [hk] at e; cases e; exact ⟨v, rfl, r1⟩
      | false => rw [hk] at e; exact RelPs.lookup ⟨h1, h2⟩ e
theorem RelPs.nil {κ : Type} : RelPs (κ := κ) K H [] [] := ⟨rfl, .nil⟩
theorem RelPs.cons {κ : Type} {k : κ} {d : D} {v : V} {ps : List (κ × D)} {qs : List (κ × V)} (r : RelD K H d v) (h : RelPs K H ps qs) : RelPs K H ((k, d) :: ps) ((k, v) :: qs) :=
  ⟨by simp [h.1], .cons r h.2⟩
theorem RelPs.inv_cons {κ : Type} {k : κ} {d : D} {ps : List (κ × D)} {qs : List (κ × V)} (h : RelPs K H ((k, d) :: ps) qs) : ∃ v r, qs = (k, v) :: r ∧ RelD K H d v ∧ RelPs K H ps r := by
  cases qs with
  | nil => have := h.1; simp at this
  | cons q qs =>
    obtain ⟨g', v⟩ := q
    have h1 := h.1
    simp only [List.map_cons, List.cons.injEq] at h1
    obtain ⟨rfl, h1⟩ := h1
    obtain ⟨x, r, e2, r1, h2⟩ := (show RelDs K H (d :: ps.map (·.2)) (v :: qs.map (·.2)) from h.2).inv_cons
    cases e2
    exact ⟨v, qs, rfl, r1, h1, h2⟩
theorem RelPs.inv_nil {κ : Type} {qs : List (κ × V)} (h : RelPs K H [] qs) : qs = [] := by
  cases qs with
  | nil => rfl
  | cons _ _ => have := h.1; simp at this
theorem RelPs.length {κ : Type} {ps : List (κ × D)} {qs : List (κ × V)} (h : RelPs K H ps qs) : ps.length = qs.length := by
  have := h.2.length; simpa using this
theorem low_meth {C : Addr} {m : Str} {S : Sp3} {dds : List D} {dvs : List V} {ta : TE3} {t : TA3} {XE : XK} (hd : ∀ H, RelDs K H dds dvs) (h : lowE K (dMeth C m S dds ta t) σ H Q) : tMeth C m (lowSp K S) dvs XE (lowE K ta) (lowA K t) σ H Q := by
  obtain ⟨σd, G, q, rs, c, t, f⟩ := h
  refine ⟨σd, G, _, rs, c, t, fun x G1 v H1 r1 c1 l1 t1 => ?_⟩
  split at t1
  · rename_i a
    split at t1
    · rename_i C' fs e
      obtain ⟨rfl, n, t1⟩ := t1
      obtain ⟨dx, ys, e2, rf⟩ := c1 _ _ e
      refine ⟨a, dx, ys, r1.ref_inv, e2, rf.lookup_none n, σd, G1, _, rs.le l1, c1, t1, fun ds G2 vs H2 r2 c2 l2 ⟨R, s2, t2⟩ => ?_⟩
      exact ⟨_, G2, R, .cons (RelD.le l2 r1) (r2.append (hd H2)), c2, s2, fun d G3 v H3 r3 c3 l3 t3 => f d G3 v H3 r3 c3 (l1.trans (l2.trans l3)) (t2 d G3 t3)⟩
    · exact t1.elim
  · exact t1.elim
theorem low_b {te : TE3} {Q : Bool → Hp → Prop} (h : lowT K (dB te) σ H Q) : tB (lowE K te) σ H Q := by
  obtain ⟨σd, G, q, rs, c, t, f⟩ := h
  refine ⟨σd, G, _, rs, c, t, fun x G1 v H1 r1 c1 l1 t1 => ?_⟩
  split at t1
  · rename_i k
    exact ⟨k, r1.bl_inv, f _ _ _ c1 l1 t1⟩
  · exact t1.elim
theorem low_andV {ta tb : TE3} (h : lowE K (dAndV ta tb) σ H Q) : tAndV (lowE K ta) (lowE K tb) σ H Q := by
  obtain ⟨σd, G, q, rs, c, t, f⟩ := h
  refine ⟨σd, G, _, rs, c, t, fun x G1 v H1 r1 c1 l1 t1 => ?_⟩
  split at t1
  · rename_i k
    refine ⟨k, r1.bl_inv, ?_⟩
    cases k with
    | true => rw [if_pos rfl] at t1 ⊢; exact ⟨σd, G1, q, rs.le l1, c1, t1, f.le l1⟩
    | false => rw [if_neg Bool.false_ne_true] at t1 ⊢; exact f _ _ _ _ (by rw [RelD]) c1 l1 t1
  · exact t1.elim
theorem low_notV {ta : TE3} (h : lowE K (dNotV ta) σ H Q) : tNotV (lowE K ta) σ H Q := by
  obtain ⟨σd, G, q, rs, c, t, f⟩ := h
  refine ⟨σd, G, _, rs, c, t, fun x G1 v H1 r1 c1 l1 t1 => ?_⟩
  split at t1
  · rename_i k
    exact ⟨k, r1.bl_inv, f _ _ _ _ (by rw [RelD]) c1 l1 t1⟩
  · exact t1.elim
/-- x op= e -/
noncomputable def dAug (i : Nat) (te : TE3) (r : R3) : TS3 := fun E σ G => match σ[i]? with
  | some (some x) => te σ G fun y G1 => r x y G1 fun z G2 => E.nx (σ.set i (some z)) G2
  | _ => False
/-! ### slices, built-in calls and methods -/
noncomputable abbrev TO3 := DSt → Gp → (Option Int → Gp → Prop) → Prop
noncomputable def lowO (K : PySem.W.Frag) (t : TO3) : TO := fun σ H Q => ∃ σd G q, RelSt K H σd σ ∧ Con K G H ∧ t σd G q ∧ ∀ o G' H', Con K G' H' → Le H H' → q o G' → Q o H'
noncomputable def dNoPart : TO3 := fun _ G q => q none G
noncomputable def dPart (t : TE3) : TO3 := fun σ G q => t σ G fun x G1 => match x with | .int i => q (some i) G1 | _ => False
theorem low_part {t : TE3} {Q : Option Int → Hp → Prop} (h : lowO K (dPart t) σ H Q) : tPart (lowE K t) σ H Q := by
  obtain ⟨σd, G, q, rs, c, t, f⟩ := h
  refine ⟨σd, G, _, rs, c, t, fun x G1 v H1 r1 c1 l1 t1 => ?_⟩
  split at t1
  · rename_i k
    rw [RelD] at r1
    exact ⟨k, r1, f _ _ _ c1 l1 t1⟩
  · exact t1.elim
noncomputable abbrev RS3 := D → Option Int → Option Int → Gp → DK → Prop
noncomputable def dSl (r : RS3) (te : TE3) (tl th : TO3) : TE3 := fun σ G q => te σ G fun x G1 => tl σ G1 fun l G2 => th σ G2 fun u G3 => r x l u G3 q
noncomputable def dCB (r : C3) (t : TA3) : TE3 := fun σ G q => t σ G fun ds G1 => r ds G1 q
theorem low_cb {r : C3} {t : TA3} (h : lowE K (dCB r t) σ H Q) : tCB (lowC K r) (lowA K t) σ H Q := by
  obtain ⟨σd, G, q, rs, c, t, f⟩ := h
  exact ⟨σd, G, _, rs, c, t, fun ds G1 vs H1 r1 c1 l1 t1 => ⟨ds, G1, q, r1, c1, t1, f.le l1⟩⟩
/-- a method of a built-in: of the object and the arguments -/
noncomputable abbrev M3 := D → List D → Gp → DK → Prop
noncomputable def lowM (K : PySem.W.Frag) (r : M3) : V → List V → Hp → VK → Prop := fun x xs H Q => ∃ d ds G q, RelD K H d x ∧ RelDs K H ds xs ∧ Con K G H ∧ r d ds G q ∧ FutE K H q Q
noncomputable def tyD (G : Gp) (T : String) : D → Prop
  | .str _ => T = "str"
  | .int _ => T = "int"
  | .ref a => match G a with
    | some (.lst _) => T = "list"
    | some (.fro _) => T = "list"
    | some (.dic _) => T = "dict"
    | _ => False
  | _ => False
noncomputable def dBM (T : String) (r : M3) (to : TE3) (t : TA3) : TE3 := fun σ G q => to σ G fun x G1 => tyD G1 T x ∧ t σ G1 fun ds G2 => r x ds G2 q
noncomputable def dBM0 (T : String) (r : M3) (to : TE3) : TE3 := fun σ G q => to σ G fun x G1 => tyD G1 T x ∧ r x [] G1 q
theorem low_bm {T : String} {r : M3} {to : TE3} {t : TA3} (ty : ∀ G H x v, Con K G H → RelD K H x v → tyD G T x → tyV K T v H) (h : lowE K (dBM T r to t) σ H Q) : tBM K T (lowM K r) (lowE K to) (lowA K t) σ H Q := by
  obtain ⟨σd, G, q, rs, c, t, f⟩ := h
  exact ⟨σd, G, _, rs, c, t, fun x G1 v H1 r1 c1 l1 ⟨y, t1⟩ => ⟨ty G1 H1 x v c1 r1 y, σd, G1, _, rs.le l1, c1, t1, fun ds G2 vs H2 r2 c2 l2 t2 => ⟨x, ds, G2, q, RelD.le l2 r1, r2, c2, t2, f.le (l1.trans l2)⟩⟩⟩
theorem low_bm0 {T : String} {r : M3} {to : TE3} (ty : ∀ G H x v, Con K G H → RelD K H x v → tyD G T x → tyV K T v H) (h : lowE K (dBM0 T r to) σ H Q) : tBM0 K T (lowM K r) (lowE K to) σ H Q := by
  obtain ⟨σd, G, q, rs, c, t, f⟩ := h
  exact ⟨σd, G, _, rs, c, t, fun x G1 v H1 r1 c1 l1 ⟨y, t1⟩ => ⟨ty G1 H1 x v c1 r1 y, x, [], G1, q, r1, .nil, c1, t1, f.le l1⟩⟩
/-! ### what is walked -/
end
end L3

namespace L3
open PySem PySem.Spec PyProof.Rows L2
set_option maxHeartbeats 4000000
/-! ### the judgements -/
section
variable {X : Cx}
theorem weakE {e : Expr} {t t' : TE} (h : PE X e t) (w : ∀ σ H Q, t' σ H Q → t σ H Q) : PE X e t' := fun pins s σ H Q I q => h pins s σ H Q I (w _ _ _ q)
theorem weakT {e : Expr} {t t' : TT} (h : PT X e t) (w : ∀ σ H Q, t' σ H Q → t σ H Q) : PT X e t' := fun pins s σ H Q I q => h pins s σ H Q I (w _ _ _ q)
theorem weakW {e : Expr} {t t' : TT} (h : PW X e t) (w : ∀ σ H Q, t' σ H Q → t σ H Q) : PW X e t' := fun wh pins s σ H Q I q => h wh pins s σ H Q I (w _ _ _ q)
theorem weakA {e : List Expr} {t t' : TA} (h : PA X e t) (w : ∀ σ H Q, t' σ H Q → t σ H Q) : PA X e t' := fun pos pins s σ H Q I q => h pos pins s σ H Q I (w _ _ _ q)
theorem weakS {e : Stmt} {t t' : TS} (h : PS X e t) (w : ∀ D σ H, t' D σ H → t D σ H) : PS X e t' := fun pins s σ H D I q => h pins s σ H D I (w _ _ _ q)
theorem weakSs {e : List Stmt} {t t' : TS} (h : PSs X e t) (w : ∀ D σ H, t' D σ H → t D σ H) : PSs X e t' := fun pins s σ H D I q => h pins s σ H D I (w _ _ _ q)
theorem weakG {e : Expr} {t t' : TG} (h : PG X e t) (w : ∀ v σ H Q, t' v σ H Q → t v σ H Q) : PG X e t' := fun pins s σ H v u Q I r q => h pins s σ H v u Q I r (w _ _ _ _ q)
theorem weakGs {e : List Expr} {t t' : TGs} (h : PGs X e t) (w : ∀ v σ H Q, t' v σ H Q → t v σ H Q) : PGs X e t' := fun pins s σ H v u Q I r q => h pins s σ H v u Q I r (w _ _ _ _ q)
theorem weakSet {t t' : TSet} (h : PSet X t) (w : ∀ o i v H Q, t' o i v H Q → t o i v H Q) : PSet X t' := fun pins s σ H o i v ov iv u Q I r1 r2 r3 q => h pins s σ H o i v ov iv u Q I r1 r2 r3 (w _ _ _ _ _ q)
theorem weakI {tg e : Expr} {t t' : TI} (h : PI X tg e t) (w : ∀ σ H R, t' σ H R → t σ H R) : PI X tg e t' := fun pins s σ H R I q => h pins s σ H R I (w _ _ _ q)
theorem weakOp {f : Value → Value → Sem Value} {r r' : R2} (h : OpR X f r) (w : ∀ x y H Q, r' x y H Q → r x y H Q) : OpR X f r' := fun pins s σ H x y v u Q I a b q => h pins s σ H x y v u Q I a b (w _ _ _ _ q)
theorem weakUn {f : Value → Sem Value} {r r' : V → Hp → VK → Prop} (h : UnR X f r) (w : ∀ x H Q, r' x H Q → r x H Q) : UnR X f r' := fun pins s σ H x v Q I a q => h pins s σ H x v Q I a (w _ _ _ q)
theorem weakCall {f : Value} {r r' : List V → Hp → VK → Prop} (h : CallR X f r) (w : ∀ x H Q, r' x H Q → r x H Q) : CallR X f r' := fun pins s σ H x v Q I a q => h pins s σ H x v Q I a (w _ _ _ q)
theorem weakMt {id : String} {r r' : V → List V → Hp → VK → Prop} (h : MtR X id r) (w : ∀ x xs H Q, r' x xs H Q → r x xs H Q) : MtR X id r' := fun pins s σ H x xs v us Q I a b q => h pins s σ H x xs v us Q I a b (w _ _ _ _ q)
theorem weakIx {r r' : R2} (h : IxR X r) (w : ∀ x y H Q, r' x y H Q → r x y H Q) : IxR X r' := fun va sl pins s σ H x y v u Q I a b q => h va sl pins s σ H x y v u Q I a b (w _ _ _ _ q)
theorem weakO {e : Option Expr} {t t' : TO} (h : PO X e t) (w : ∀ σ H Q, t' σ H Q → t σ H Q) : PO X e t' := by
  intro pins s σ H Q I q
  exact h pins s σ H Q I (w _ _ _ q)
theorem weakIfs {e : List Expr} {t t' : TT} (h : PIfs X e t) (w : ∀ σ H Q, t' σ H Q → t σ H Q) : PIfs X e t' := fun pins s σ H Q I q => h pins s σ H Q I (w _ _ _ q)
end
noncomputable def E3 (X : Cx) (e : Expr) (t : TE3) : Prop := PE X e (lowE X.K t)
noncomputable def T3 (X : Cx) (e : Expr) (t : TT3) : Prop := PT X e (lowT X.K t)
noncomputable def W3 (X : Cx) (e : Expr) (t : TT3) : Prop := PW X e (lowT X.K t)
noncomputable def A3 (X : Cx) (es : List Expr) (t : TA3) : Prop := PA X es (lowA X.K t)
noncomputable def S3 (X : Cx) (st : Stmt) (t : TS3) : Prop := PS X st (lowS X.K t)
noncomputable def Ss3 (X : Cx) (sts : List Stmt) (t : TS3) : Prop := PSs X sts (lowS X.K t)
noncomputable def J3 (X : Cx) (e : Expr) (t : TG3) : Prop := PG X e (lowG X.K t)
noncomputable def Js3 (X : Cx) (es : List Expr) (t : TGs3) : Prop := PGs X es (lowGs X.K t)
noncomputable def I3 (X : Cx) (tg e : Expr) (t : TI3) : Prop := PI X tg e (lowI X.K t)
noncomputable def O3 (X : Cx) (e : Option Expr) (t : TO3) : Prop := PO X e (lowO X.K t)
noncomputable def Ifs3 (X : Cx) (es : List Expr) (t : TT3) : Prop := PIfs X es (lowT X.K t)
noncomputable abbrev Op3 (X : Cx) (f : Value → Value → Sem Value) (r : R3) : Prop := OpR X f (lowR X.K r)
noncomputable abbrev Call3 (X : Cx) (f : Value) (r : C3) : Prop := CallR X f (lowC X.K r)

section
variable {X : Cx} {a b c e o : Expr} {es : List Expr} {pos apos cpos p p2 : Pos} {ta tb tc te : TE3} {t u : TT3} {ts us : TA3}
theorem ev (i : Nat) {x : Str} {pos : Pos} (hN : X.N[i]? = some x := by rfl) (hv : Vis X.env.scope x := by first | exact Or.inl rfl | exact Or.inr (Or.inl rfl) | exact Or.inr (Or.inr rfl)) (hd : (x == ("__debug__" : Str)) = false := by decide)
    (hcd : (x == ("__classdict__" : Str)) = false := by decide) : E3 X (.Name x pos) (dVar i) := weakE (pe_var hN hv hd hcd) fun _ _ _ => low_var
theorem e_int {i j pos} : E3 X (.Constant (.int i) j pos) (dC (.int i)) := weakE pe_int fun _ _ _ => low_c fun _ => by rw [RelD]
theorem e_bl {i j pos} : E3 X (.Constant (.bool i) j pos) (dC (.bl i)) := weakE pe_bl fun _ _ _ => low_c fun _ => by rw [RelD]
theorem e_non {j pos} : E3 X (.Constant .none j pos) (dC .non) := weakE pe_non fun _ _ _ => low_c fun _ => by rw [RelD]
theorem e_str {x j pos} : E3 X (.Constant (.str x) j pos) (dC (.str x)) := weakE pe_str fun _ _ _ => low_c fun _ => by rw [RelD]
theorem e_bin {op : Operator} {r : R3} (ho : Op3 X (binaryOp op) r) (ha : E3 X a ta) (hb : E3 X b tb) : E3 X (.BinOp a op b pos) (dOp r ta tb) := weakE (pe_op ho ha hb) fun _ _ _ => low_op
theorem e_un {op : UnaryOp} {r : U3} (ho : UnR X (unaryOp op) (lowU X.K r)) (ha : E3 X a ta) : E3 X (.UnaryOp op a pos) (dUn r ta) := weakE (pe_un ho ha) fun _ _ _ => low_un
theorem e_cmp {op : CmpOp} {r : R3} (ho : Op3 X (compareOp op) r) (ha : E3 X a ta) (hb : E3 X b tb) (hm : behindInMarks op b = false) : E3 X (.Compare a [op] [b] pos) (dOp r ta tb) := weakE (pe_cmpR ho ha hb hm) fun _ _ _ => low_op
theorem t_cmp {op : CmpOp} {r : R3} (ho : Op3 X (compareOp op) r) (ha : E3 X a ta) (hb : E3 X b tb) (hm : behindInMarks op b = false) : T3 X (.Compare a [op] [b] pos) (dB (dOp r ta tb)) :=
  weakT (pt_cmpR ho ha hb hm) fun σ H Q h => by
    obtain ⟨σd, G, q, rs, c, t, f⟩ := h
    exact low_op (K := X.K) ⟨σd, G, _, rs, c, t, fun x G1 v H1 r1 c1 l1 t1 => by
      split at t1
      · rename_i k
        exact ⟨k, r1.bl_inv, f _ _ _ c1 l1 t1⟩
      · exact t1.elim⟩
theorem t_val (h : E3 X e te) (he : ∀ whole, isTrue e X.env whole = (do let v ← whole; standAt e.pos; holding [v] (truthy v)) := by intro _; rfl) : T3 X e (dB te) := weakT (pt_val h he) fun _ _ _ => low_b
theorem w_and1 (ha : T3 X a t) : W3 X (.BoolOp .And [a] pos) t := pw_and1 ha
theorem w_or1 (ha : T3 X a t) : W3 X (.BoolOp .Or [a] pos) t := pw_or1 ha
theorem w_and {rest : List Expr} (ha : T3 X a t) (hb : W3 X (.BoolOp .And (b :: rest) pos) u) : W3 X (.BoolOp .And (a :: b :: rest) pos) (dAnd t u) := weakW (pw_and ha hb) fun _ _ _ => low_andT
theorem w_or {rest : List Expr} (ha : T3 X a t) (hb : W3 X (.BoolOp .Or (b :: rest) pos) u) : W3 X (.BoolOp .Or (a :: b :: rest) pos) (dOr t u) := weakW (pw_or ha hb) fun _ _ _ => low_orT
theorem t_w (h : W3 X e t) : T3 X e t := PW.pt h
theorem t_not (ha : T3 X a t) : T3 X (.UnaryOp .Not a pos) (dNot t) := weakT (pt_not ha) fun _ _ _ => low_notT
theorem e_one {op} (h : E3 X a ta) : E3 X (.BoolOp op [a] pos) ta := pe_one h
theorem e_and {rest : List Expr} (ha : E3 X a ta) (hb : E3 X (.BoolOp .And (b :: rest) pos) tb) : E3 X (.BoolOp .And (a :: b :: rest) pos) (dAndV ta tb) := weakE (pe_and ha hb) fun _ _ _ => low_andV
theorem e_not (ha : E3 X a ta) : E3 X (.UnaryOp .Not a pos) (dNotV ta) := weakE (pe_not ha) fun _ _ _ => low_notV
theorem e_if (hc : T3 X c t) (ha : E3 X a ta) (hb : E3 X b tb) : E3 X (.IfExp c a b pos) (dIf t ta tb) := weakE (pe_ifExp hc ha hb) fun _ _ _ => low_if
theorem a_nil : A3 X [] dNil := weakA pa_nil fun _ _ _ => low_nil
theorem a_cons (ha : E3 X e te) (hr : A3 X es ts) (hs : starEach (e :: es) X.env = (false, eval e X.env) :: starEach es X.env := by rfl) : A3 X (e :: es) (dCons te ts) := weakA (pa_cons ha hr hs) fun _ _ _ => low_cons
theorem e_tup {x1} (h : A3 X es ts) : E3 X (.Tuple es x1 pos) (dTup ts) := weakE (pe_tup h) fun _ _ _ => low_tup
theorem e_lst (h : A3 X es ts) : E3 X (.List es pos) (dLst ts) := weakE (pe_lst h) fun _ _ _ => low_lst
theorem e_ix {r : R3} (hr : IxR X (lowR X.K r)) (ha : E3 X a ta) (hb : E3 X b tb) (hs : PlainIx b := by exact fun _ _ => rfl) : E3 X (.Subscript a b pos) (dOp r ta tb) := weakE (pe_ix hr ha hb hs) fun _ _ _ => low_op
theorem o_some (h : E3 X e te) : O3 X (some e) (dPart te) := weakO (po_some h) fun _ _ _ => low_part
end

/-! ### statements -/
section
variable {X : Cx} {a b c e o value : Expr} {es : List Expr} {st : Stmt} {sts sts2 : List Stmt} {pos pos' spos tpos : Pos} {te ta tv : TE3} {t : TT3} {s1 s2 : TS3} {g : TG3}
theorem ss_nil : Ss3 X [] dNext := weakSs pss_nil fun _ _ _ => low_next
theorem ss_cons (h1 : S3 X st s1) (h2 : Ss3 X sts s2) : Ss3 X (st :: sts) (dSeq s1 s2) := weakSs (pss_cons h1 h2) fun _ _ _ => low_seq
theorem ss_one (h1 : S3 X st s1) : Ss3 X [st] s1 := pss_one h1
theorem s_expr (he : E3 X e te) (hs : swapsWith e none pos.line X.env = pure false := by rfl) : S3 X (.Expr e pos) (dDrop te) := weakS (ps_expr he hs) fun _ _ _ => low_drop
theorem s_ret (he : E3 X e te) : S3 X (.Return (some e) pos) (dRet te) := weakS (ps_ret he) fun _ _ _ => low_ret
theorem s_if (hc : T3 X c t) (ha : Ss3 X sts s1) (hb : Ss3 X sts2 s2) : S3 X (.If c sts sts2 pos) (dIfS t s1 s2) := weakS (ps_if hc ha hb) fun _ _ _ => low_ifS
theorem j_name (i : Nat) {x : Str} (hN : X.N.Nodup) (hi : X.N[i]? = some x := by rfl) (hx : Loc X.env.scope x := by first | exact Or.inl rfl | exact Or.inr rfl) (hf : X.fn x = true ∨ X.env.scope.names.lookup x = some .local := by first | exact .inl rfl | exact .inr rfl | assumption) : J3 X (.Name x pos) (jName i) :=
  weakG (pg_name hN hi hx hf) fun _ _ _ _ => low_jName
theorem js_nil : Js3 X [] jNil := weakGs pgs_nil fun _ _ _ _ => low_jNil
theorem js_cons {t : TG3} {u : TGs3} (h1 : J3 X e t) (h2 : Js3 X es u) (hs : (assignEach (e :: es) X.env).map (·.2) = assign e X.env :: (assignEach es X.env).map (·.2) := by rfl) : Js3 X (e :: es) (jCons t u) := weakGs (pgs_cons h1 h2 hs) fun _ _ _ _ => low_jCons
theorem j_sub {i : Expr} {to ti : TE3} {t : TSet3} (ho : E3 X o to) (hi : E3 X i ti) (hs : PSet X (lowSet X.K t))
    (ha : ∀ v, assign (.Subscript o i pos) X.env v = (do
      let ov ← holding [v] (eval o X.env)
      let iv ← holding [v, ov] (eval i X.env)
      standAt pos
      holding [v, ov, iv] (setItem ov iv v)
      release [v, ov, iv] []) := by intro _; rfl) : J3 X (.Subscript o i pos) (jSub to ti t) := weakG (pg_sub ho hi hs ha) fun _ _ _ _ => low_jSub
theorem s_asg {tg : Expr} (he : E3 X e te) (hg : J3 X tg g) (hs : swapsWithSole [tg] e pos.line X.env = pure false := by rfl) (hw : swappedStores [tg] e X.env = pure none := by rfl)
    (h1 : (assignEach [tg] X.env).map (·.2) = [assign tg X.env] := by rfl) : S3 X (.Assign [tg] e pos) (dAsg te g) := weakS (ps_asg he hg hs hw h1) fun _ _ _ => low_asg
theorem s_set (i : Nat) {x : Str} (hN : X.N.Nodup) (he : E3 X e te) (hi : X.N[i]? = some x := by rfl) (hx : Loc X.env.scope x := by first | exact Or.inl rfl | exact Or.inr rfl) (hs : swapsWith e (some (.Name x pos')) pos.line X.env = pure false := by rfl)
    (hf : X.fn x = true ∨ X.env.scope.names.lookup x = some .local := by first | exact .inl rfl | exact .inr rfl | assumption) : S3 X (.Assign [.Name x pos'] e pos) (dAsg te (jName i)) :=
  weakS (ps_set hN hi hx he hs hf) fun D σ H h => by
    obtain ⟨σd, G, q, rs, c, t, f⟩ := h
    exact ⟨σd, G, _, rs, c, t, fun x G1 v H1 r1 c1 l1 t1 => f.nx _ _ _ _ ((rs.le l1).set i r1) c1 l1 t1⟩
theorem s_for {tg iter : Expr} {body : List Stmt} {wi : TI3} (hi : I3 X tg iter wi) (hg : J3 X tg g) (hb : Ss3 X body s1) (hc : X.calm = true := by rfl) (hp : PassesOwn (model X.prog X.w) X.A X.env X.xe := by exact PassesOwn.never)
    (hs : ∀ x, foldedSetIterable iter X.env x = pure x := by intro _; rfl) : S3 X (.For tg iter body [] pos) (dFor wi g s1) := weakS (ps_for hp hc hi hg hb hs) fun _ _ _ => low_for
end
theorem low_wRng1 {K : PySem.W.Frag} {σ : L2.St} {H : Hp} {ta : TA3} {R : It → Hp → Prop} (h : lowI K (fun σ G r => ta σ G fun ds G1 => match ds with | [.int j] => (-(2 ^ 62) ≤ j ∧ j < 2 ^ 62) ∧ r ⟨rngD 0 j.toNat, fun _ => True⟩ G1 | _ => False) σ H R) : iRng1 (lowA K ta) σ H R := by
  obtain ⟨σd, G, q, rs, c, t, f⟩ := h
  refine ⟨σd, G, _, rs, c, t, fun ds G1 vs H1 r1 c1 l1 t1 => ?_⟩
  split at t1
  · rename_i j
    obtain ⟨x, r, rfl, rx, rr⟩ := r1.inv_cons
    rw [RelD] at rx
    subst rx
    rw [rr.inv_nil]
    exact ⟨j, rfl, t1.1.1, t1.1.2, f _ _ _ _ itrel_range c1 l1 t1.2⟩
  · exact t1.elim
theorem low_wRng2 {K : PySem.W.Frag} {σ : L2.St} {H : Hp} {ta : TA3} {R : It → Hp → Prop} (h : lowI K (fun σ G r => ta σ G fun ds G1 => match ds with | [.int i, .int j] => (-(2 ^ 62) ≤ i ∧ i < 2 ^ 62 ∧ -(2 ^ 62) ≤ j ∧ j < 2 ^ 62) ∧ r ⟨rngD i (j - i).toNat, fun _ => True⟩ G1 | _ => False) σ H R) : iRng2 (lowA K ta) σ H R := by
  obtain ⟨σd, G, q, rs, c, t, f⟩ := h
  refine ⟨σd, G, _, rs, c, t, fun ds G1 vs H1 r1 c1 l1 t1 => ?_⟩
  split at t1
  · rename_i i j
    obtain ⟨x, r, rfl, rx, rr⟩ := r1.inv_cons
    obtain ⟨y, r', rfl, ry, rr2⟩ := rr.inv_cons
    rw [RelD] at rx ry
    subst rx ry
    rw [rr2.inv_nil]
    exact ⟨i, j, rfl, t1.1, f _ _ _ _ itrel_range c1 l1 t1.2⟩
  · exact t1.elim
noncomputable def wRng1 (ta : TA3) : TI3 := fun σ G r => ta σ G fun ds G1 => match ds with | [.int j] => (-(2 ^ 62) ≤ j ∧ j < 2 ^ 62) ∧ r ⟨rngD 0 j.toNat, fun _ => True⟩ G1 | _ => False
noncomputable def wRng2 (ta : TA3) : TI3 := fun σ G r => ta σ G fun ds G1 => match ds with | [.int i, .int j] => (-(2 ^ 62) ≤ i ∧ i < 2 ^ 62 ∧ -(2 ^ 62) ≤ j ∧ j < 2 ^ 62) ∧ r ⟨rngD i (j - i).toNat, fun _ => True⟩ G1 | _ => False
section
variable {X : Cx} {a b e o tg : Expr} {es : List Expr} {p pos apos cpos : Pos} {ta : TE3} {ts : TA3}
theorem i_rng1 (hg : Gl X "range") (hm : X.mg "range" = none) (ha : A3 X [a] ts) (hs : starEach [a] X.env = [(false, eval a X.env)] := by rfl) : I3 X tg (.Call (.Name "range" p) [a] [] pos) (wRng1 ts) := weakI (pi_range1 hg hm ha hs) fun _ _ _ => low_wRng1
theorem i_rng2 (hg : Gl X "range") (hm : X.mg "range" = none) (ha : A3 X [a, b] ts) (hs : starEach [a, b] X.env = [(false, eval a X.env), (false, eval b X.env)] := by rfl) (hs2 : starEach [b] X.env = [(false, eval b X.env)] := by rfl) :
    I3 X tg (.Call (.Name "range" p) [a, b] [] pos) (wRng2 ts) := weakI (pi_range2 hg hm ha hs hs2) fun _ _ _ => low_wRng2
/-! ### calls -/
variable {k : Nat} {f C : Addr} {fd : FuncData} {ps : List Str} {S : Sp3} {dds : List D} {dvs : List V} {ds : List Value} {x m : Str}
theorem e_call (F : FnOk X.prog X.w X.K X.mg X.base CX0 k f fd ps (lowSp X.K S)) (hr : Room k X.A) (hg : Gl X x) (hm : X.mg x = some (.ref f)) (hk : PySem.W.keepIn X.K (.ref f) = true) (hb : Binds X.K fd ps ds) (hd : Vals dvs ds) (hdd : ∀ H, RelDs X.K H dds dvs)
    (ha : A3 X (e :: es) ts) (hdb : (x == ("__debug__" : Str)) = false := by decide) (he : starEach (e :: es) X.env = (false, eval e X.env) :: starEach es X.env := by rfl) (hpl : (backTo pos (starEach es X.env)).any (·.1) = false := by rfl) :
    E3 X (.Call (.Name x p) (e :: es) [] pos) (dCall S dds ts) := weakE (pe_call F hr hg hm hk hb hd pass0 ha hdb he hpl) fun _ _ _ => low_call hdd
theorem e_meth {pl : Sem Bool} (he : E3 X o ta) (c : Cls X.K C) (hm : Meth X.K C m f) (F : FnOk X.prog X.w X.K X.mg X.base CX0 k f fd ps (lowSp X.K S)) (hr : Room k X.A) (hb : Binds X.K fd ps ds) (hd : Vals dvs ds) (hdd : ∀ H, RelDs X.K H dds dvs) (ha : A3 X (e :: es) ts)
    (hse : starEach (e :: es) X.env = (false, eval e X.env) :: starEach es X.env := by rfl) (hpl : (backTo pos (starEach es X.env)).any (·.1) = false := by rfl)
    (ht : eval (.Call (.Attribute o m apos) (e :: es) [] pos) X.env = (do
      let ov ← eval o X.env
      standAt apos.atName
      let (f, first) ← holding [ov] (getMethod ov m pl)
      callWith pos f first (backTo pos (starEach (e :: es) X.env)) (backToKw pos (keywordEach [] X.env))) := by rfl) : E3 X (.Call (.Attribute o m apos) (e :: es) [] pos) (dMeth C m S dds ta ts) :=
  weakE (pe_meth he c hm F hr hb hd pass0 ha hse hpl ht) fun _ _ _ => low_meth hdd
variable {id T : String} {r : C3} {rm : M3} {name : Str}
theorem e_callB (hc : Call3 X (.builtin id) r) (hg : Gl X x) (hm : X.mg x = none) (hv : bootBuiltins x = some (.builtin id)) (ha : A3 X (e :: es) ts) (hn : x ≠ "__name__" := by decide) (hdb : (x == ("__debug__" : Str)) = false := by decide)
    (he : starEach (e :: es) X.env = (false, eval e X.env) :: starEach es X.env := by rfl) (hpl : (backTo pos (starEach es X.env)).any (·.1) = false := by rfl) : E3 X (.Call (.Name x p) (e :: es) [] pos) (dCB r ts) :=
  weakE (pe_callB hc hg hm hv ha hn hdb he hpl) fun _ _ _ => low_cb
theorem e_callTy (hc : Call3 X (.type T) r) (hg : Gl X x) (hm : X.mg x = none) (hv : bootBuiltins x = some (.type T)) (ha : A3 X (e :: es) ts) (hn : x ≠ "__name__" := by decide) (hdb : (x == ("__debug__" : Str)) = false := by decide)
    (he : starEach (e :: es) X.env = (false, eval e X.env) :: starEach es X.env := by rfl) (hpl : (backTo pos (starEach es X.env)).any (·.1) = false := by rfl) : E3 X (.Call (.Name x p) (e :: es) [] pos) (dCB r ts) :=
  weakE (pe_callTy hc hg hm hv ha hn hdb he hpl) fun _ _ _ => low_cb
end
end L3
namespace L3
open PySem PySem.Spec PyProof.Rows L2
set_option maxHeartbeats 4000000
/-! ### comprehensions -/
noncomputable def innerD (ix : List (Option Nat)) (σ : DSt) : DSt := ix.map fun o => o.bind fun j => (σ[j]?).bind id
noncomputable def compL (ok : Gp → Prop) (g : TG3) (tc : TT3) (te : TE3) (p : Addr) (q : DK) : List D → DSt → Gp → Prop
  | [], _, G => ok G ∧ q (.ref p) G
  | x :: r, σ, G => ok G ∧ g x σ G fun σ2 G2 => tc σ2 G2 fun b G3 =>
    if b = true then te σ2 G3 fun d G4 => (match G4 p with | some (.lst ys) => ys.length < sizeLine ∧ compL ok g tc te p q r σ2 (gup G4 p (.lst (ys ++ [d]))) | _ => False)
    else compL ok g tc te p q r σ2 G3
noncomputable def dComp (ix : List (Option Nat)) (wi : TI3) (g : TG3) (tc : TT3) (te : TE3) : TE3 := fun σ G q => wi σ G fun it G1 => ∀ p, G1 p = none → compL it.ok g tc te p q it.items (innerD ix σ) (gup G1 p (.lst []))
theorem RelSt.inn {K : PySem.W.Frag} {H : Hp} {σd : DSt} {σ : L2.St} (h : RelSt K H σd σ) (ix : List (Option Nat)) : RelSt K H (innerD ix σd) (L2.inner ix σ) := by
  refine ⟨by unfold innerD L2.inner; rw [List.length_map, List.length_map], fun i d e => ?_⟩
  unfold innerD at e
  unfold L2.inner
  rw [List.getElem?_map] at e ⊢
  cases ho : ix[i]? with
  | none => rw [ho] at e; cases e
  | some o =>
    rw [ho] at e
    cases o with
    | none => cases e
    | some j =>
      have e : (σd[j]?).bind id = some d := Option.some.inj e
      have e : σd[j]? = some (some d) := by
        cases hs : σd[j]? with
        | none => rw [hs] at e; cases e
        | some w => rw [hs] at e; cases e; rfl
      obtain ⟨v, hv, r⟩ := h.2 j d e
      exact ⟨v, by show some ((σ[j]?).bind id) = _; rw [hv]; rfl, r⟩
theorem low_comp {K : PySem.W.Frag} {ix : List (Option Nat)} {wi : TI3} {g : TG3} {tc : TT3} {te : TE3} {σ : L2.St} {H : Hp} {Q : VK} (h : lowE K (dComp ix wi g tc te) σ H Q) : tComp ix (lowI K wi) (lowG K g) (lowT K tc) (lowE K te) σ H Q := by
  obtain ⟨σd, G, q, rs, cc, t, f⟩ := h
  refine ⟨σd, G, _, rs, cc, t, fun it J G1 H1 ir c1 l1 t1 => ?_⟩
  intro p hp
  have t1 := t1 p (c1.fresh hp)
  have c2 : Con K (gup G1 p (.lst [])) (upd H1 p (.lst [])) := c1.lstNew hp .nil
  have l2 : Le H1 (upd H1 p (.lst [])) := Le.fresh hp
  refine ⟨fun i m σ' H' => ∃ σd' G', Le (upd H1 p (.lst [])) H' ∧ RelSt K H' σd' σ' ∧ Con K G' H' ∧ i + m = it.items.length ∧ compL it.ok g tc te p q (it.items.drop i) σd' G',
    ⟨it.items.length, innerD ix σd, _, Le.refl _, (rs.le (l1.trans l2)).inn ix, c2, by omega, by rw [List.drop_zero]; exact t1⟩, ?_⟩
  rintro i m σ2 H2 ⟨σd2, G2, l3, rs2, c2, e2, t2⟩
  have l12 : Le H1 H2 := l2.trans l3
  by_cases hi : i < it.items.length
  · rw [List.drop_eq_getElem_cons hi] at t2
    obtain ⟨ok2, t2⟩ := t2
    refine .inr ⟨ir.go i G2 H2 l12 c2 ok2 hi, fun σ' H' => ∃ σd' G', Le (upd H1 p (.lst [])) H' ∧ RelSt K H' σd' σ' ∧ Con K G' H' ∧ compL it.ok g tc te p q (it.items.drop (i + 1)) σd' G', ?_, ?_⟩
    · rintro σ' H' ⟨σd', G', a1, a2, a3, a4⟩
      exact ⟨m - 1, by omega, σd', G', a1, a2, a3, by omega, a4⟩
    · intro x H3 y
      obtain ⟨c3, l4, e, he, r3⟩ := ir.yld i G2 H2 x H3 l12 c2 ok2 hi y
      rw [List.getElem?_eq_getElem hi] at he
      cases he
      refine ⟨_, σd2, G2, _, r3, rs2.le l4, c3, t2, fun σd4 G4 σ4 H4 rs4 c4 l5 t4 => ?_⟩
      refine ⟨σd4, G4, _, rs4, c4, t4, fun b G5 H5 c5 l6 t5 => ?_⟩
      cases b with
      | false =>
        rw [if_neg Bool.false_ne_true] at t5 ⊢
        exact ⟨σd4, G5, l3.trans (l4.trans (l5.trans l6)), rs4.le l6, c5, t5⟩
      | true =>
        rw [if_pos rfl] at t5 ⊢
        refine ⟨σd4, G5, _, rs4.le l6, c5, t5, fun d G6 v H6 r6 c6 l7 t6 => ?_⟩
        split at t6
        · rename_i ys eg
          obtain ⟨xs, ex, rx⟩ := c6 p _ eg
          have l8 := Le.lst (ys := xs ++ [v]) ex
          exact ⟨xs, ex, by rw [← rx.length]; exact t6.1, σd4, _, l3.trans (l4.trans (l5.trans (l6.trans (l7.trans l8)))), rs4.le (l6.trans (l7.trans l8)), c6.lstSet ex (rx.append (.cons r6 .nil)), t6.2⟩
        · exact t6.elim
  · rw [List.drop_eq_nil_of_le (by omega)] at t2
    exact .inl ⟨ir.stop i G2 H2 l12 c2 t2.1 (by omega), f _ _ _ _ RelD.refI c2 (l1.trans l12) t2.2⟩
noncomputable def dYes : TT3 := fun _ G q => q true G
section
variable {X : Cx} {elt tg iter : Expr} {ifs : List Expr} {scope : Scope} {pos : Pos} {N' : List Str} {ix : List (Option Nat)} {wi : TI3} {g : TG3} {tc : TT3} {te : TE3}
theorem ifs_nil : Ifs3 X [] dYes := weakIfs pifs_nil fun σ H Q h => by
  obtain ⟨σd, G, q, rs, c, t, f⟩ := h
  exact f _ _ _ c (Le.refl H) t
theorem ifs_one {c : Expr} (h : T3 X c tc) : Ifs3 X [c] tc := pifs_one h
theorem e_comp (B : BlkOk X N' ix scope) (hw : I3 X tg iter wi) (hg : ∀ C s H fp, J3 (cxComp X N' scope C s H fp) tg g) (hi : ∀ C s H fp, Ifs3 (cxComp X N' scope C s H fp) ifs tc) (he : ∀ C s H fp, E3 (cxComp X N' scope C s H fp) elt te)
    (hc : X.calm = true := by rfl) (hs : ∀ x, foldedSetIterable iter X.env x = pure x := by intro _; rfl) : E3 X (.ListComp elt [⟨tg, iter, ifs, 0⟩] scope pos) (dComp ix wi g tc te) :=
  weakE (pe_comp (g := lowG X.K g) (tc := lowT X.K tc) (te := lowE X.K te) B hc hw hg hi he hs) fun _ _ _ => low_comp
theorem s_setC (i : Nat) {y : Str} {py spos : Pos} (hN : X.N.Nodup) (B : BlkOk X N' ix scope) (hw : I3 X tg iter wi) (hg : ∀ C s H fp, J3 (cxComp X N' scope C s H fp) tg g) (hi : ∀ C s H fp, Ifs3 (cxComp X N' scope C s H fp) ifs tc) (he : ∀ C s H fp, E3 (cxComp X N' scope C s H fp) elt te)
    (hy : X.N[i]? = some y := by rfl) (hl : Loc X.env.scope y := by first | exact Or.inl rfl | exact Or.inr rfl)
    (hc : X.calm = true := by rfl) (hsw : swapsWith (.ListComp elt [⟨tg, iter, ifs, 0⟩] scope pos) (some (.Name y py)) spos.line X.env = pure true := by rfl)
    (hf : X.fn y = true ∨ X.env.scope.names.lookup y = some .local := by first | exact .inl rfl | exact .inr rfl | assumption)
    (hs : ∀ x, foldedSetIterable iter X.env x = pure x := by intro _; rfl) : S3 X (.Assign [.Name y py] (.ListComp elt [⟨tg, iter, ifs, 0⟩] scope pos) spos) (dAsg (dComp ix wi g tc te) (jName i)) :=
  weakS (ps_setC (g := lowG X.K g) (tc := lowT X.K tc) (te := lowE X.K te) B hc hN hy hl hw hg hi he hsw hf hs) fun D σ H h => by
    obtain ⟨σd, G, d, rs, c, t, f⟩ := h
    exact low_comp (K := X.K) ⟨σd, G, _, rs, c, t, fun x G1 v H1 r1 c1 l1 t1 => f.nx _ _ _ _ ((rs.le l1).set i r1) c1 l1 t1⟩
end
end L3

namespace L3
open PySem PySem.Spec PyProof.Rows L2
set_option maxHeartbeats 4000000
/-! ### operations, by the values' kinds -/
noncomputable def xAdd : R3 := fun x y G q => match x, y with
  | .int i, .int j => q (.int (i + j)) G
  | .str a, .str b => a.length + b.length ≤ sizeLine ∧ q (.str (a ++ b)) G
  | .tup a, .tup b => a ≠ [] ∧ a.length + b.length ≤ sizeLine ∧ q (.tup (a ++ b)) G
  | .ref a, .ref b => (match G a, G b with
    | some (.lst xs), some (.lst ys) => xs.length + ys.length ≤ sizeLine ∧ ∀ p, G p = none → q (.ref p) (gup G p (.lst (xs ++ ys)))
    | _, _ => False)
  | _, _ => False
noncomputable def xInt (f : Int → Int → Int) : R3 := fun x y G q => match x, y with | .int i, .int j => q (.int (f i j)) G | _, _ => False
noncomputable def xIntC (C : Int → Int → Prop) (f : Int → Int → Int) : R3 := fun x y G q => match x, y with | .int i, .int j => C i j ∧ q (.int (f i j)) G | _, _ => False
noncomputable def xSub : R3 := xInt fun i j => i - j
noncomputable def xMul : R3 := fun x y G q => match x, y with
  | .int i, .int j => CMul i j ∧ q (.int (i * j)) G
  | .ref a, .int k => (match G a with
    | some (.lst xs) => (-(2 ^ 63) ≤ k ∧ k < 2 ^ 63 ∧ xs.length * k.toNat ≤ sizeLine) ∧ ∀ p, G p = none → q (.ref p) (gup G p (.lst (List.replicate k.toNat xs).flatten))
    | _ => False)
  | _, _ => False
noncomputable def CDivL (_ j : Int) : Prop := 0 < j ∧ j < 18446744073709551616
noncomputable def xDiv : R3 := xIntC CDivL fun i j => i / j
noncomputable def xMod : R3 := xIntC (fun _ j => 0 < j) fun i j => i % j
noncomputable def xPow : R3 := xIntC CPow fun i j => i ^ j.toNat
noncomputable def xShl : R3 := xIntC CPow fun i j => i * 2 ^ j.toNat
noncomputable def xShr : R3 := xIntC (fun _ j => 0 ≤ j) fun i j => i / 2 ^ j.toNat
noncomputable def xAnd : R3 := xInt Builtin.bitAnd
noncomputable def xOr : R3 := xInt Builtin.bitOr
noncomputable def xXor : R3 := xInt Builtin.bitXor
noncomputable def xLt : R3 := fun x y G q => match x, y with | .int i, .int j => q (.bl (decide (i < j))) G | .str a, .str b => q (.bl (decide (a.cps.toList < b.cps.toList))) G | _, _ => False
noncomputable def xLe : R3 := fun x y G q => match x, y with | .int i, .int j => q (.bl (decide (i ≤ j))) G | _, _ => False
noncomputable def xGt : R3 := fun x y G q => match x, y with | .int i, .int j => q (.bl (decide (j < i))) G | _, _ => False
noncomputable def xGe : R3 := fun x y G q => match x, y with | .int i, .int j => q (.bl (decide (j ≤ i))) G | _, _ => False
section
variable {X : Cx} {K : PySem.W.Frag} {H : Hp}
theorem RelD.int_inv {i : Int} {v : V} (h : RelD K H (.int i) v) : v = .int i := by rw [RelD] at h; exact h
theorem RelD.str_inv {i : Str} {v : V} (h : RelD K H (.str i) v) : v = .str i := by rw [RelD] at h; exact h
theorem RelD.non_inv {v : V} (h : RelD K H .non v) : v = .non := by rw [RelD] at h; exact h
theorem RelD.tup_inv {ds : List D} {v : V} (h : RelD K H (.tup ds) v) : ∃ a xs, v = .ref a ∧ SqT K H a xs ∧ RelDs K H ds xs := by rw [RelD] at h; exact h
theorem RelD.intI {i : Int} : RelD K H (.int i) (.int i) := by rw [RelD]
theorem RelD.strI {i : Str} : RelD K H (.str i) (.str i) := by rw [RelD]
theorem RelD.blI {i : Bool} : RelD K H (.bl i) (.bl i) := by rw [RelD]
theorem RelD.nonI : RelD K H .non .non := by rw [RelD]
theorem x_int {f : Value → Value → Sem Value} {g : Int → Int → Int} (h : OpR X f (rI0 fun i j => .int (g i j))) : Op3 X f (xInt g) := weakOp h fun x y H Q ⟨d, e, G, q, r1, r2, c, t, f⟩ => by
  unfold xInt at t
  split at t
  · exact ⟨_, _, r1.int_inv, r2.int_inv, f _ _ _ _ RelD.intI c (Le.refl H) t⟩
  · exact t.elim
theorem x_intC {f : Value → Value → Sem Value} {C : Int → Int → Prop} {g : Int → Int → Int} (h : OpR X f (rI C fun i j => .int (g i j))) : Op3 X f (xIntC C g) := weakOp h fun x y H Q ⟨d, e, G, q, r1, r2, c, t, f⟩ => by
  unfold xIntC at t
  split at t
  · exact ⟨_, _, r1.int_inv, r2.int_inv, t.1, f _ _ _ _ RelD.intI c (Le.refl H) t.2⟩
  · exact t.elim
theorem x_sub : Op3 X (binaryOp .Sub) xSub := x_int op_sub
theorem op_fdivL : OpR X (binaryOp .FloorDiv) (rI CDivL fun i j => .int (i / j)) := opI fun i j _ _ _ _ _ hc q => by
  have hl : j.natAbs.log2 < 9000 := by
    have h1 := hc.1
    have h2 := hc.2
    have hn : j.natAbs ≠ 0 := by omega
    have : j.natAbs.log2 < 64 := (Nat.log2_lt hn).mpr (by omega)
    omega
  refine floordiv_int (by have := hc.1; omega) ?_ (.inl (PyProof.noPylong_of_log2 hl))
  rw [Int.fdiv_eq_ediv_of_nonneg i (by have := hc.1; omega)]
  exact q
theorem x_div : Op3 X (binaryOp .FloorDiv) xDiv := x_intC op_fdivL
theorem x_mod : Op3 X (binaryOp .Mod) xMod := x_intC op_mod
theorem x_pow : Op3 X (binaryOp .Pow) xPow := x_intC op_pow
theorem x_shl : Op3 X (binaryOp .LShift) xShl := x_intC op_shl
theorem x_add : Op3 X (binaryOp .Add) xAdd := weakOp (op_add.or (op_add_str.or (op_catT.or op_cat))) <| by
  rintro x y H Q ⟨d, e, G, q, r1, r2, c, t, f⟩
  unfold xAdd at t
  split at t
  · exact .inl ⟨_, _, r1.int_inv, r2.int_inv, f _ _ _ _ RelD.intI c (Le.refl H) t⟩
  · exact .inr (.inl ⟨_, _, r1.str_inv, r2.str_inv, t.1, f _ _ _ _ RelD.strI c (Le.refl H) t.2⟩)
  · obtain ⟨a, xs, rfl, s1, q1⟩ := r1.tup_inv
    obtain ⟨b, ys, rfl, s2, q2⟩ := r2.tup_inv
    refine .inr (.inr (.inl ⟨a, b, xs, ys, rfl, rfl, s1, s2, fun z => t.1 ?_, by rw [← q1.length, ← q2.length]; exact t.2.1, fun z => ?_, fun _ p hp => ?_⟩))
    · have := q1.length; rw [z] at this; exact List.eq_nil_of_length_eq_zero this
    · refine f (.tup _) G (.ref a) _ ?_ c (Le.refl _) t.2.2
      rw [RelD]
      subst z
      have e : ∀ {bs : List D}, RelDs X.K H bs [] → bs = [] := fun h => List.eq_nil_of_length_eq_zero h.length
      rw [e q2, List.append_nil]
      exact ⟨a, _, rfl, s1, q1⟩
    · refine f (.tup _) G (.ref p) _ ?_ (c.side hp) (Le.fresh hp) t.2.2
      rw [RelD]
      exact ⟨p, _, rfl, SqT.of upd_same, RelDs.le (Le.fresh hp) (q1.append q2)⟩
  · rename_i a b
    split at t
    · rename_i xs ys e1 e2
      obtain ⟨vs, h1, q1⟩ := c _ _ e1
      obtain ⟨ws, h2, q2⟩ := c _ _ e2
      exact .inr (.inr (.inr ⟨a, b, vs, ws, r1.ref_inv, r2.ref_inv, h1, h2, by rw [← q1.length, ← q2.length]; exact t.1, fun p hp => f _ _ _ _ RelD.refI (c.lstNew hp (q1.append q2)) (Le.fresh hp) (t.2 p (c.fresh hp))⟩))
    · exact t.elim
  · exact t.elim
theorem x_mul : Op3 X (binaryOp .Mult) xMul := weakOp (op_mul.or op_rep) <| by
  rintro x y H Q ⟨d, e, G, q, r1, r2, c, t, f⟩
  unfold xMul at t
  split at t
  · exact .inl ⟨_, _, r1.int_inv, r2.int_inv, t.1, f _ _ _ _ RelD.intI c (Le.refl H) t.2⟩
  · rename_i a k
    split at t
    · rename_i xs e1
      obtain ⟨vs, h1, q1⟩ := c _ _ e1
      refine .inr ⟨a, k, vs, r1.ref_inv, r2.int_inv, h1, t.1.1, t.1.2.1, by rw [← q1.length]; exact t.1.2.2, ?_⟩
      intro p hp
      exact f _ _ _ _ RelD.refI (c.lstNew hp (q1.rep _)) (Le.fresh hp) (t.2 p (c.fresh hp))
    · exact t.elim
  · exact t.elim
theorem x_cmpI {f : Value → Value → Sem Value} {g : Int → Int → Bool} (h : OpR X f (rI0 fun i j => .bl (g i j))) : Op3 X f (fun x y G q => match x, y with | .int i, .int j => q (.bl (g i j)) G | _, _ => False) := weakOp h fun x y H Q ⟨d, e, G, q, r1, r2, c, t, f⟩ => by
  dsimp only at t
  split at t
  · exact ⟨_, _, r1.int_inv, r2.int_inv, f _ _ _ _ RelD.blI c (Le.refl H) t⟩
  · exact t.elim
theorem x_le : Op3 X (compareOp .LtE) xLe := x_cmpI op_le
theorem x_gt : Op3 X (compareOp .Gt) xGt := x_cmpI op_gt
theorem x_ge : Op3 X (compareOp .GtE) xGe := x_cmpI op_ge
theorem x_lt : Op3 X (compareOp .Lt) xLt := weakOp (op_lt.or op_lt_str) <| by
  rintro x y H Q ⟨d, e, G, q, r1, r2, c, t, f⟩
  unfold xLt at t
  split at t
  · exact .inl ⟨_, _, r1.int_inv, r2.int_inv, f _ _ _ _ RelD.blI c (Le.refl H) t⟩
  · exact .inr ⟨_, _, r1.str_inv, r2.str_inv, f _ _ _ _ RelD.blI c (Le.refl H) t⟩
  · exact t.elim
theorem RelD.not_non {d : D} {v : V} (h : RelD K H d v) (n : d ≠ .non) : v ≠ .non := by
  cases d with
  | non => exact absurd rfl n
  | bl _ => rw [h.bl_inv]; exact fun z => nomatch z
  | int _ => rw [h.int_inv]; exact fun z => nomatch z
  | str _ => rw [h.str_inv]; exact fun z => nomatch z
  | ref _ => rw [h.ref_inv]; exact fun z => nomatch z
  | ty _ => rw [RelD] at h; rw [h]; exact fun z => nomatch z
  | tup _ => obtain ⟨a, xs, e, _⟩ := h.tup_inv; rw [e]; exact fun z => nomatch z
noncomputable def xNeg : U3 := fun x G q => match x with | .int i => q (.int (-i)) G | _ => False
theorem x_neg : UnR X (unaryOp .USub) (lowU X.K xNeg) := weakUn un_neg <| by
  rintro x H Q ⟨d, G, q, r1, c, t, f⟩
  unfold xNeg at t
  split at t
  · exact ⟨_, r1.int_inv, f _ _ _ _ RelD.intI c (Le.refl H) t⟩
  · exact t.elim
/-! ### items, slices, stores -/
noncomputable def xIx : R3 := fun x y G q => match x, y with
  | .tup ds, .int i => (match atI ds i with | some d => q d G | none => False)
  | .ref a, .int i => (match seqOf (G a) with | some ds => (match atI ds i with | some d => q d G | none => False) | none => False)
  | .str z, .int i => z.length ≤ sizeLine ∧ (match atI z.cps.toList i with | some c => q (.str ⟨#[c]⟩) G | none => False)
  | _, _ => False
theorem RelDs.atI {ds : List D} {xs : List V} {i : Int} {d : D} (h : RelDs K H ds xs) (e : L2.atI ds i = some d) : ∃ v, L2.atI xs i = some v ∧ RelD K H d v := by
  unfold L2.atI at e ⊢
  rw [← h.length]
  cases hj : ixN ds.length i with
  | none => rw [hj] at e; cases e
  | some j =>
    rw [hj] at e
    exact h.get e
theorem x_ix : IxR X (lowR X.K xIx) := weakIx ix_seq <| by
  rintro x y H Q ⟨d, e, G, q, r1, r2, c, t, f⟩
  unfold xIx at t
  split at t
  · rename_i ds i
    obtain ⟨a, xs, rfl, s1, q1⟩ := r1.tup_inv
    split at t
    · rename_i w ew
      obtain ⟨v, hv, rv⟩ := q1.atI ew
      exact .inr (.inl ⟨a, xs, i, v, rfl, r2.int_inv, s1, hv, f _ _ _ _ rv c (Le.refl H) t⟩)
    · exact t.elim
  · rename_i a i
    split at t
    · rename_i ds es
      obtain ⟨xs, s1, q1⟩ := sql_of c es
      split at t
      · rename_i w ew
        obtain ⟨v, hv, rv⟩ := q1.atI ew
        exact .inl ⟨a, xs, i, v, r1.ref_inv, r2.int_inv, s1, hv, f _ _ _ _ rv c (Le.refl H) t⟩
      · exact t.elim
    · exact t.elim
  · rename_i z i
    obtain ⟨hz, t⟩ := t
    split at t
    · rename_i w ew
      exact .inr (.inr ⟨z, i, w, r1.str_inv, r2.int_inv, hz, ew, f _ _ _ _ RelD.strI c (Le.refl H) t⟩)
    · exact t.elim
  · exact t.elim
noncomputable def cutD {α : Type} (xs : List α) (lo hi : Option Int) : List α := (xs.drop (HT.sIx xs.length 0 lo)).take (HT.sIx xs.length xs.length hi - HT.sIx xs.length 0 lo)
noncomputable def xSet : TSet3 := fun o i v G q => match o, i with
  | .ref a, .int k => (match G a with | some (.lst ds) => (match ixN ds.length k with | some j => q (gup G a (.lst (ds.set j v))) | none => False) | _ => False)
  | _, _ => False
theorem x_set : PSet X (lowSet X.K xSet) := weakSet set_list <| by
  rintro o i v H Q ⟨d, e, x, G, q, r1, r2, r3, c, t, f⟩
  unfold xSet at t
  split at t
  · rename_i a k
    split at t
    · rename_i ds e1
      obtain ⟨xs, h1, q1⟩ := c _ _ e1
      split at t
      · rename_i j ej
        exact ⟨a, xs, k, j, r1.ref_inv, r2.int_inv, h1, by rw [← q1.length]; exact ej, f _ _ (c.lstSet h1 (q1.set r3 j)) (Le.lst h1) t⟩
      · exact t.elim
    · exact t.elim
  · exact t.elim
end
end L3

namespace L3
open PySem PySem.Spec PyProof.Rows L2
set_option maxHeartbeats 4000000
/-! ### == of anything: by what the values are, all lists taken in -/
inductive Sn where
  | non | bl (b : Bool) | int (i : Int) | str (x : Str) | tup (xs : List Sn) | lst (xs : List Sn)
/-- the value as it stands at G, by n levels -/
noncomputable def snap (G : Gp) : Nat → D → Option Sn
  | _, .non => some .non
  | _, .bl b => some (.bl b)
  | _, .int i => some (.int i)
  | _, .str x => some (.str x)
  | n + 1, .tup ds => (ds.mapM (snap G n)).map .tup
  | n + 1, .ref a => (seqOf (G a)).bind fun ds => (ds.mapM (snap G n)).map .lst
  | _, _ => none
noncomputable def flatS : Sn → Bool
  | .non => true | .bl _ => true | .int _ => true | .str _ => true | _ => false
noncomputable def eqF : Sn → Sn → Bool
  | .non, .non => true
  | .bl a, .bl b => a == b
  | .bl a, .int b => (if a then 1 else 0) == b
  | .int a, .bl b => a == (if b then 1 else 0)
  | .int a, .int b => a == b
  | .str a, .str b => a == b
  | _, _ => false
/-- == by n levels: none where it is not told -/
noncomputable def eqN : Nat → Sn → Sn → Option Bool
  | n + 1, .tup xs, .tup ys => if xs.length = ys.length then ((xs.zip ys).mapM fun p => eqN n p.1 p.2).map fun bs => bs.all id else none
  | n + 1, .lst xs, .lst ys => if xs.length = ys.length then ((xs.zip ys).mapM fun p => eqN n p.1 p.2).map fun bs => bs.all id else some false
  | _, x, y => if (flatS x && flatS y) = true then some (eqF x y) else none

theorem mapM_some {α β : Type} {f : α → Option β} : ∀ {xs : List α} {ys : List β}, xs.mapM f = some ys → xs.length = ys.length ∧ ∀ (i : Nat) x, xs[i]? = some x → ∃ y, ys[i]? = some y ∧ f x = some y
  | [], ys, h => by
    have : ys = [] := by simpa using h.symm
    subst this
    exact ⟨rfl, fun i x e => by simp at e⟩
  | x :: xs, ys, h => by
    rw [List.mapM_cons] at h
    cases hx : f x with
    | none => rw [hx] at h; cases h
    | some y =>
      rw [hx] at h
      cases hr : xs.mapM f with
      | none => rw [hr] at h; cases h
      | some r =>
        rw [hr] at h
        have e : y :: r = ys := Option.some.inj h
        subst e
        obtain ⟨h1, h2⟩ := mapM_some hr
        refine ⟨by simp [h1], fun i z e => ?_⟩
        cases i with
        | zero => cases (show x = z from Option.some.inj e); exact ⟨y, rfl, hx⟩
        | succ i => exact h2 i z e
theorem all_of {bs : List Bool} {e : Nat → Bool} {n : Nat} (hl : bs.length = n) (h : ∀ (i : Nat) b, bs[i]? = some b → e i = b) : (List.range n).all e = bs.all id := by
  rw [Bool.eq_iff_iff, List.all_eq_true, List.all_eq_true]
  constructor
  · intro q b hb
    obtain ⟨i, hi, eb⟩ := List.mem_iff_getElem.mp hb
    have := q i (List.mem_range.mpr (by omega))
    rw [h i b (by rw [List.getElem?_eq_getElem hi, eb])] at this
    exact this
  · intro q i hi
    have hi := List.mem_range.mp hi
    rw [h i bs[i] (List.getElem?_eq_getElem (by omega))]
    exact q _ (List.getElem_mem _)
section
variable {X : Cx} {pins : List (Addr × Obj)} {σ : L2.St} {H : Hp} {s : Shared} {G : Gp}
theorem flat_of {n : Nat} {d : D} {sd : Sn} {x : V} {u : Value} (h : snap G n d = some sd) (fl : flatS sd = true) (r : RelD X.K H d x) : flatV x = true ∧ ∀ (e : D) (se : Sn) (y : V), snap G n e = some se → flatS se = true → RelD X.K H e y → eqV x y = eqF sd se := by
  have key : ∀ (d : D) (sd : Sn) (x : V), snap G n d = some sd → flatS sd = true → RelD X.K H d x → (sd = .non ∧ x = .non) ∨ (∃ b, sd = .bl b ∧ x = .bl b) ∨ (∃ i, sd = .int i ∧ x = .int i) ∨ (∃ z, sd = .str z ∧ x = .str z) := by
    intro d sd x h fl r
    cases d with
    | non => have e : Sn.non = sd := by cases n <;> exact Option.some.inj h
             subst e; exact .inl ⟨rfl, r.non_inv⟩
    | bl b => have e : Sn.bl b = sd := by cases n <;> exact Option.some.inj h
              subst e; exact .inr (.inl ⟨b, rfl, r.bl_inv⟩)
    | int b => have e : Sn.int b = sd := by cases n <;> exact Option.some.inj h
               subst e; exact .inr (.inr (.inl ⟨b, rfl, r.int_inv⟩))
    | str b => have e : Sn.str b = sd := by cases n <;> exact Option.some.inj h
               subst e; exact .inr (.inr (.inr ⟨b, rfl, r.str_inv⟩))
    | tup ds =>
      cases n with
      | zero => cases h
      | succ n =>
        have h : (ds.mapM (snap G n)).map Sn.tup = some sd := h
        obtain ⟨a, _, rfl⟩ := Option.map_eq_some_iff.mp h
        cases fl
    | ref a =>
      cases n with
      | zero => cases h
      | succ n =>
        have h : ((seqOf (G a)).bind fun ds => (ds.mapM (snap G n)).map Sn.lst) = some sd := h
        obtain ⟨ds, _, h⟩ := Option.bind_eq_some_iff.mp h
        obtain ⟨a, _, rfl⟩ := Option.map_eq_some_iff.mp h
        cases fl
    | ty t => cases n <;> cases h
  rcases key d sd x h fl r with ⟨rfl, rfl⟩ | ⟨b, rfl, rfl⟩ | ⟨b, rfl, rfl⟩ | ⟨b, rfl, rfl⟩ <;> refine ⟨rfl, fun e se y h' fl' r' => ?_⟩ <;>
    rcases key e se y h' fl' r' with ⟨rfl, rfl⟩ | ⟨c, rfl, rfl⟩ | ⟨c, rfl, rfl⟩ | ⟨c, rfl, rfl⟩ <;> rfl
theorem snap_tup {n : Nat} {ds : List D} {sd : Sn} (h : snap G n (.tup ds) = some sd) : ∃ m ss, n = m + 1 ∧ sd = .tup ss ∧ ds.mapM (snap G m) = some ss := by
  cases n with
  | zero => cases h
  | succ n =>
    obtain ⟨ss, h1, rfl⟩ := Option.map_eq_some_iff.mp (show (ds.mapM (snap G n)).map Sn.tup = some sd from h)
    exact ⟨n, ss, rfl, rfl, h1⟩
theorem snap_ref {n : Nat} {a : Addr} {sd : Sn} (h : snap G n (.ref a) = some sd) : ∃ m ds ss, n = m + 1 ∧ sd = .lst ss ∧ seqOf (G a) = some ds ∧ ds.mapM (snap G m) = some ss := by
  cases n with
  | zero => cases h
  | succ n =>
    obtain ⟨ds, h0, h⟩ := Option.bind_eq_some_iff.mp (show ((seqOf (G a)).bind fun ds => (ds.mapM (snap G n)).map Sn.lst) = some sd from h)
    obtain ⟨ss, h1, rfl⟩ := Option.map_eq_some_iff.mp h
    exact ⟨n, ds, ss, rfl, rfl, h0, h1⟩
/-- one value read twice -/
theorem eqN_flat {n : Nat} {x y : Sn} (hx : flatS x = true) : eqN n x y = if (flatS x && flatS y) = true then some (eqF x y) else none := by
  cases x with
  | tup _ => cases hx
  | lst _ => cases hx
  | non => cases n <;> rfl
  | bl _ => cases n <;> rfl
  | int _ => cases n <;> rfl
  | str _ => cases n <;> rfl
theorem eqN_some {n : Nat} {x y : Sn} {b : Bool} (h : eqN n x y = some b) (fl : ¬ (flatS x && flatS y) = true) : (∃ m xs ys, n = m + 1 ∧ x = .tup xs ∧ y = .tup ys) ∨ (∃ m xs ys, n = m + 1 ∧ x = .lst xs ∧ y = .lst ys) := by
  unfold eqN at h
  split at h
  · exact .inl ⟨_, _, _, rfl, rfl, rfl⟩
  · exact .inr ⟨_, _, _, rfl, rfl, rfl⟩
  · rw [if_neg fl] at h; cases h
theorem snap_isT {n : Nat} {d : D} {ss : List Sn} (h : snap G n d = some (.tup ss)) : ∃ ds, d = .tup ds := by
  cases d with
  | tup ds => exact ⟨ds, rfl⟩
  | ref a => obtain ⟨_, _, _, _, e', _⟩ := snap_ref h; cases e'
  | _ => cases n <;> cases h
theorem snap_isL {n : Nat} {d : D} {ss : List Sn} (h : snap G n d = some (.lst ss)) : ∃ a, d = .ref a := by
  cases d with
  | ref a => exact ⟨a, rfl⟩
  | tup ds => obtain ⟨_, _, _, e', _⟩ := snap_tup h; cases e'
  | _ => cases n <;> cases h
theorem same_flat {n : Nat} {d e : D} {x : V} {sd se : Sn} {b : Bool} (r1 : RelD X.K H d x) (r2 : RelD X.K H e x) (h1 : snap G n d = some sd) (h2 : snap G n e = some se) (hb : eqN n sd se = some b) (fl : (flatS sd && flatS se) = true) : b = true := by
  rw [Bool.and_eq_true] at fl
  have z := hb
  rw [eqN_flat fl.1, if_pos (by rw [fl.1, fl.2]; rfl)] at z
  obtain ⟨fx, k⟩ := flat_of (u := Value.none) h1 fl.1 r1
  rw [← Option.some.inj z, ← k e se x h2 fl.2 r2]
  cases x with
  | non => rfl
  | bl b => exact beq_self_eq_true b
  | int i => exact beq_self_eq_true i
  | str w => exact beq_self_eq_true w
  | _ => cases fx
theorem same_eq (I : Inv X pins σ H s) (c : Con X.K G H) : ∀ (n : Nat) (d e : D) (x : V) (sd se : Sn) (b : Bool), RelD X.K H d x → RelD X.K H e x → snap G n d = some sd → snap G n e = some se → eqN n sd se = some b → b = true := by
  intro n
  induction n with
  | zero =>
    intro d e x sd se b r1 r2 h1 h2 hb
    by_cases fl : (flatS sd && flatS se) = true
    · exact same_flat r1 r2 h1 h2 hb fl
    · rcases eqN_some hb fl with ⟨_, _, _, z, _⟩ | ⟨_, _, _, z, _⟩ <;> cases z
  | succ m ih =>
    intro d e x sd se b r1 r2 h1 h2 hb
    by_cases fl : (flatS sd && flatS se) = true
    · exact same_flat r1 r2 h1 h2 hb fl
    have items : ∀ (ds es : List D) (xs : List V) (ss ts : List Sn) (bs : List Bool), RelDs X.K H ds xs → RelDs X.K H es xs → ds.mapM (snap G m) = some ss → es.mapM (snap G m) = some ts → ((ss.zip ts).mapM fun p => eqN m p.1 p.2) = some bs → bs.all id = true := by
      intro ds es xs ss ts bs q1 q2 k1 k2 kb
      rw [List.all_eq_true]
      intro b hb
      obtain ⟨i, hi, eb⟩ := List.mem_iff_getElem.mp hb
      obtain ⟨l1, f1⟩ := mapM_some k1
      obtain ⟨l2, f2⟩ := mapM_some k2
      obtain ⟨l3, f3⟩ := mapM_some kb
      have hz : (ss.zip ts).length = min ss.length ts.length := List.length_zip
      have e1 := q1.length
      have e2 := q2.length
      have hds : i < ds.length := by omega
      have hes : i < es.length := by omega
      obtain ⟨y1, g1, s1⟩ := f1 i ds[i] (List.getElem?_eq_getElem hds)
      obtain ⟨y2, g2, s2⟩ := f2 i es[i] (List.getElem?_eq_getElem hes)
      have hzip : (ss.zip ts)[i]? = some (y1, y2) := by rw [List.getElem?_zip_eq_some]; exact ⟨g1, g2⟩
      obtain ⟨b', g3, s3⟩ := f3 i _ hzip
      rw [List.getElem?_eq_getElem hi, eb] at g3
      cases g3
      obtain ⟨z1, hz1, rz1⟩ := q1.get (List.getElem?_eq_getElem hds)
      obtain ⟨z2, hz2, rz2⟩ := q2.get (List.getElem?_eq_getElem hes)
      rw [hz1] at hz2; cases hz2
      exact ih ds[i] es[i] z1 y1 y2 b rz1 rz2 s1 s2 s3
    rcases eqN_some hb fl with ⟨m', ss, ts, em, rfl, rfl⟩ | ⟨m', ss, ts, em, rfl, rfl⟩
    · cases em
      obtain ⟨ds, rfl⟩ := snap_isT h1
      obtain ⟨es, rfl⟩ := snap_isT h2
      obtain ⟨_, _, em, ez, k1⟩ := snap_tup h1
      cases em
      cases ez
      obtain ⟨_, _, em, ez, k2⟩ := snap_tup h2
      cases em
      cases ez
      obtain ⟨a, xs, rfl, q1, rr1⟩ := r1.tup_inv
      obtain ⟨a', ys, e', q2, rr2⟩ := r2.tup_inv
      cases e'
      have := I.tuple_inj q1 q2
      subst this
      unfold eqN at hb
      split at hb
      · obtain ⟨bs, kb, rfl⟩ := Option.map_eq_some_iff.mp hb
        exact items ds es xs ss ts bs rr1 rr2 k1 k2 kb
      · cases hb
    · cases em
      obtain ⟨a, rfl⟩ := snap_isL h1
      obtain ⟨a', rfl⟩ := snap_isL h2
      cases r1.ref_inv
      have e' := r2.ref_inv
      cases e'
      obtain ⟨_, ds, _, em, ez, hs1, k1⟩ := snap_ref h1
      cases em
      cases ez
      obtain ⟨_, es, _, em, ez, hs2, k2⟩ := snap_ref h2
      cases em
      cases ez
      rw [hs1] at hs2
      cases hs2
      rw [k1] at k2
      cases k2
      obtain ⟨xs, _, rr⟩ := sql_of c hs1
      unfold eqN at hb
      split at hb
      · obtain ⟨bs, kb, rfl⟩ := Option.map_eq_some_iff.mp hb
        exact items ds ds xs ss ss bs rr rr k1 k1 kb
      · rename_i h; exact absurd rfl h
/-- the items of two sequences -/
structure SeqPair (G : Gp) (K : PySem.W.Frag) (H : Hp) (m : Nat) (its its2 : List Value) (bs : List Bool) : Prop where
  len : its.length = its2.length
  bl : bs.length = its.length
  at_ : ∀ (j : Nat) (h1 : j < its.length) (h2 : j < its2.length) (h3 : j < bs.length), ∃ d e x y sd se, RelD K H d x ∧ RelV x its[j] ∧ RelD K H e y ∧ RelV y its2[j] ∧ snap G m d = some sd ∧ snap G m e = some se ∧ eqN m sd se = some bs[j]
theorem seqPair {m : Nat} {ds es : List D} {xs ys : List V} {its its2 : List Value} {ss ts : List Sn} {bs : List Bool} (q1 : RelDs X.K H ds xs) (v1 : Vals xs its) (q2 : RelDs X.K H es ys) (v2 : Vals ys its2)
    (k1 : ds.mapM (snap G m) = some ss) (k2 : es.mapM (snap G m) = some ts) (hl : ss.length = ts.length) (kb : ((ss.zip ts).mapM fun p => eqN m p.1 p.2) = some bs) : SeqPair G X.K H m its its2 bs := by
  obtain ⟨l1, f1⟩ := mapM_some k1
  obtain ⟨l2, f2⟩ := mapM_some k2
  obtain ⟨l3, f3⟩ := mapM_some kb
  have hz : (ss.zip ts).length = min ss.length ts.length := List.length_zip
  have e1 := q1.length
  have e2 := q2.length
  have e3 := v1.length
  have e4 := v2.length
  refine ⟨by omega, by omega, fun j h1 h2 h3 => ?_⟩
  have hds : j < ds.length := by omega
  have hes : j < es.length := by omega
  obtain ⟨y1, g1, s1⟩ := f1 j ds[j] (List.getElem?_eq_getElem hds)
  obtain ⟨y2, g2, s2⟩ := f2 j es[j] (List.getElem?_eq_getElem hes)
  have hzip : (ss.zip ts)[j]? = some (y1, y2) := by rw [List.getElem?_zip_eq_some]; exact ⟨g1, g2⟩
  obtain ⟨b', g3, s3⟩ := f3 j _ hzip
  rw [List.getElem?_eq_getElem h3] at g3
  cases g3
  obtain ⟨z1, hz1, rz1⟩ := q1.get (List.getElem?_eq_getElem hds)
  obtain ⟨z2, hz2, rz2⟩ := q2.get (List.getElem?_eq_getElem hes)
  obtain ⟨u1, hu1, ru1⟩ := v1.get hz1
  obtain ⟨u2, hu2, ru2⟩ := v2.get hz2
  rw [List.getElem?_eq_getElem h1] at hu1
  rw [List.getElem?_eq_getElem h2] at hu2
  cases hu1
  cases hu2
  exact ⟨ds[j], es[j], z1, z2, y1, y2, rz1, ru1, rz2, ru2, s1, s2, s3⟩
end
end L3
namespace L3
open PySem PySem.Spec PyProof.Rows L2
set_option maxHeartbeats 4000000
section
variable {X : Cx} {pins : List (Addr × Obj)} {σ : L2.St} {H : Hp} {s : Shared} {G : Gp}
theorem eq_flat (I : Inv X pins σ H s) {n : Nat} {A : Around} {d e : D} {x y : V} {u v : Value} {sd se : Sn} {b : Bool} (r1 : RelD X.K H d x) (v1 : RelV x u) (r2 : RelD X.K H e y) (v2 : RelV y v) (h1 : snap G n d = some sd) (h2 : snap G n e = some se) (hb : eqN n sd se = some b) (fl : (flatS sd && flatS se) = true) : SeqAt.EqAt A s u v b := by
  rw [Bool.and_eq_true] at fl
  have hb' : b = eqF sd se := by
    have z := hb
    rw [eqN_flat fl.1, if_pos (by rw [fl.1, fl.2]; rfl)] at z
    exact (Option.some.inj z).symm
  obtain ⟨fx, k⟩ := flat_of (u := u) h1 fl.1 r1
  obtain ⟨fy, _⟩ := flat_of (u := v) h2 fl.2 r2
  rw [hb', ← k e se y h2 fl.2 r2]
  exact eqAt_V v1 v2 fx fy
theorem eq_at (I : Inv X pins σ H s) (c : Con X.K G H) : ∀ (n : Nat) (A : Around) (d e : D) (x y : V) (u v : Value) (sd se : Sn) (b : Bool), RelD X.K H d x → RelV x u → RelD X.K H e y → RelV y v → snap G n d = some sd → snap G n e = some se → eqN n sd se = some b → A.units + n < cLine → SeqAt.EqAt A s u v b := by
  intro n
  induction n with
  | zero =>
    intro A d e x y u v sd se b r1 v1 r2 v2 h1 h2 hb hu
    by_cases fl : (flatS sd && flatS se) = true
    · exact eq_flat I r1 v1 r2 v2 h1 h2 hb fl
    · rcases eqN_some hb fl with ⟨_, _, _, z, _⟩ | ⟨_, _, _, z, _⟩ <;> cases z
  | succ m ih =>
    intro A d e x y u v sd se b r1 v1 r2 v2 h1 h2 hb hu
    by_cases fl : (flatS sd && flatS se) = true
    · exact eq_flat I r1 v1 r2 v2 h1 h2 hb fl
    · have inner : ∀ (its its2 : List Value) (bs : List Bool), SeqPair G X.K H m its its2 bs → ∀ j (h1 : j < its.toArray.size) (h2 : j < its2.toArray.size), SeqAt.EqAt A.in1 s its.toArray[j] its2.toArray[j] ((bs[j]?).getD true) := by
        intro its its2 bs P j h1 h2
        have h1' : j < its.length := by simpa using h1
        have h2' : j < its2.length := by simpa using h2
        have h3' : j < bs.length := by rw [P.bl]; exact h1'
        obtain ⟨d', e', x', y', sd', se', a1, a2, a3, a4, a5, a6, a7⟩ := P.at_ j h1' h2' h3'
        rw [List.getElem?_eq_getElem h3']
        have hu' : A.in1.units + m < cLine := by
          have : A.in1.units = A.units + 1 := rfl
          omega
        have := ih A.in1 d' e' x' y' _ _ sd' se' _ a1 a2 a3 a4 a5 a6 a7 hu'
        simpa using this
      rcases eqN_some hb fl with ⟨m', ss, ts, em, rfl, rfl⟩ | ⟨m', ss, ts, em, rfl, rfl⟩
      · cases em
        obtain ⟨ds, rfl⟩ := snap_isT h1
        obtain ⟨es, rfl⟩ := snap_isT h2
        obtain ⟨_, _, em, ez, k1⟩ := snap_tup h1
        cases em
        cases ez
        obtain ⟨_, _, em, ez, k2⟩ := snap_tup h2
        cases em
        cases ez
        obtain ⟨a, xs, rfl, q1, rr1⟩ := r1.tup_inv
        obtain ⟨a', ys, rfl, q2, rr2⟩ := r2.tup_inv
        cases v1
        cases v2
        by_cases haa : a = a'
        · subst haa
          rw [same_eq I c (m + 1) (.tup ds) (.tup es) (.ref a) _ _ b r1 r2 h1 h2 hb]
          exact SeqAt.EqAt.same _
        · unfold eqN at hb
          split at hb
          · rename_i hlen
            obtain ⟨bs, kb, rfl⟩ := Option.map_eq_some_iff.mp hb
            obtain ⟨its, w1, t1, _⟩ := I.tuple q1
            obtain ⟨its2, w2, t2, _⟩ := I.tuple q2
            have P := seqPair rr1 w1 rr2 w2 k1 k2 hlen kb
            have R := SeqAt.RcAt.tuples (A := A) (s := s) (e := fun j => (bs[j]?).getD true) (show s.heap.IsTuple a its.toArray from t1) (show s.heap.IsTuple a' its2.toArray from t2) (by omega) (inner its its2 bs P)
            have e1 : ((List.range (min its.toArray.size its2.toArray.size)).all (fun j => (bs[j]?).getD true) && its.toArray.size == its2.toArray.size) = bs.all id := by
              have el : its.toArray.size = its2.toArray.size := by simpa using P.len
              rw [el, Nat.min_self, beq_self_eq_true, Bool.and_true]
              exact all_of (by rw [← el]; simpa using P.bl) fun i b hb => by rw [hb]; rfl
            rw [e1] at R
            exact SeqAt.EqAt.of_refs haa R
          · cases hb
      · cases em
        obtain ⟨a, rfl⟩ := snap_isL h1
        obtain ⟨a', rfl⟩ := snap_isL h2
        obtain ⟨_, ds, _, em, ez, hs1, k1⟩ := snap_ref h1
        cases em
        cases ez
        obtain ⟨_, es, _, em, ez, hs2, k2⟩ := snap_ref h2
        cases em
        cases ez
        cases r1.ref_inv
        cases r2.ref_inv
        cases v1
        cases v2
        by_cases haa : a = a'
        · subst haa
          rw [same_eq I c (m + 1) (.ref a) (.ref a) (.ref a) _ _ b r1 r2 h1 h2 hb]
          exact SeqAt.EqAt.same _
        · obtain ⟨xs, q1, rr1⟩ := sql_of c hs1
          obtain ⟨ys, q2, rr2⟩ := sql_of c hs2
          obtain ⟨its, w1, t1, _⟩ := I.list q1
          obtain ⟨its2, w2, t2, _⟩ := I.list q2
          unfold eqN at hb
          split at hb
          · rename_i hlen
            obtain ⟨bs, kb, rfl⟩ := Option.map_eq_some_iff.mp hb
            have P := seqPair rr1 w1 rr2 w2 k1 k2 hlen kb
            have el : its.toArray.size = its2.toArray.size := by simpa using P.len
            have R := SeqAt.RcAt.lists (A := A) (s := s) (e := fun j => (bs[j]?).getD true) t1.isList t2.isList el (by omega) (inner its its2 bs P)
            have e1 : ((List.range its.toArray.size).all (fun j => (bs[j]?).getD true)) = bs.all id :=
              all_of (by simpa using P.bl) fun i b hb => by rw [hb]; rfl
            rw [e1] at R
            exact SeqAt.EqAt.of_refs haa R
          · rename_i hlen
            cases hb
            have n1 := (mapM_some k1).1
            have n2 := (mapM_some k2).1
            have m1 := rr1.length
            have m2 := rr2.length
            have m3 := w1.length
            have m4 := w2.length
            exact SeqAt.EqAt.of_refs haa (SeqAt.RcAt.lists_lengths t1.isList t2.isList (by simp; omega) (by omega))
end
/-- == and != of two lists, two tuples -/
noncomputable def rEqD (K : PySem.W.Frag) (neg : Bool) : R2 := fun x y H Q => ∃ (d e : D) (G : Gp) (n : Nat) (sd se : Sn) (b : Bool), RelD K H d x ∧ RelD K H e y ∧ Con K G H ∧ n ≤ 40 ∧ snap G n d = some sd ∧ snap G n e = some se ∧ eqN n sd se = some b ∧ flatS sd = false ∧ Q (.bl (if neg then !b else b)) H
section
variable {X : Cx} {k : Nat}
theorem op_eqD (hr : Room k X.A) : OpR X (compareOp .Eq) (rEqD X.K false) := by
  intro pins s σ H x y v u Q I rx ry h
  obtain ⟨d, e, G, n, sd, se, b, r1, r2, c, hn, h1, h2, hb, fl, q⟩ := h
  have hu := hr.units
  have fin : EP X pins σ Q (.bool b) s := ⟨.bl b, H, I, rfl, q⟩
  rcases eqN_some hb (fun z => by rw [fl] at z; cases z) with ⟨m, ss, ts, rfl, rfl, rfl⟩ | ⟨m, ss, ts, rfl, rfl, rfl⟩
  · obtain ⟨ds, rfl⟩ := snap_isT h1
    obtain ⟨es, rfl⟩ := snap_isT h2
    · · · obtain ⟨_, ss', em, ez, k1⟩ := snap_tup h1
          cases em
          cases ez
          obtain ⟨m', ts', em, es', k2⟩ := snap_tup h2
          cases em
          cases es'
          obtain ⟨a, xs, rfl, q1, rr1⟩ := r1.tup_inv
          obtain ⟨a', ys, rfl, q2, rr2⟩ := r2.tup_inv
          cases rx
          cases ry
          unfold eqN at hb
          split at hb
          · rename_i hlen
            obtain ⟨bs, kb, rfl⟩ := Option.map_eq_some_iff.mp hb
            obtain ⟨its, w1, t1, _⟩ := I.tuple q1
            obtain ⟨its2, w2, t2, _⟩ := I.tuple q2
            have P := seqPair rr1 w1 rr2 w2 k1 k2 hlen kb
            refine SeqAt.eq_tupleAt (e := fun j => (bs[j]?).getD true) (show s.heap.IsTuple a its.toArray from t1) (show s.heap.IsTuple a' its2.toArray from t2) (by omega) ?_ ?_
            · intro j h1 h2
              have h1' : j < its.length := by simpa using h1
              have h2' : j < its2.length := by simpa using h2
              have h3' : j < bs.length := by rw [P.bl]; exact h1'
              obtain ⟨d', e', x', y', sd', se', a1, a2, a3, a4, a5, a6, a7⟩ := P.at_ j h1' h2' h3'
              rw [List.getElem?_eq_getElem h3']
              have := eq_at I c m X.A.in1 d' e' x' y' _ _ sd' se' _ a1 a2 a3 a4 a5 a6 a7 (by have : X.A.in1.units = X.A.units + 1 := rfl; omega)
              simpa using this
            · have e1 : ((List.range (min its.toArray.size its2.toArray.size)).all (fun j => (bs[j]?).getD true) && its.toArray.size == its2.toArray.size) = bs.all id := by
                have el : its.toArray.size = its2.toArray.size := by simpa using P.len
                rw [el, Nat.min_self, beq_self_eq_true, Bool.and_true]
                exact all_of (by rw [← el]; simpa using P.bl) fun i b hb => by rw [hb]; rfl
              rw [e1]
              exact fin
          · cases hb
  · obtain ⟨a, rfl⟩ := snap_isL h1
    obtain ⟨a', rfl⟩ := snap_isL h2
    · · · obtain ⟨_, ds, ss', em, ez, hs1, k1⟩ := snap_ref h1
          cases em
          cases ez
          obtain ⟨m', es, ts', em, es', hs2, k2⟩ := snap_ref h2
          cases em
          cases es'
          cases r1.ref_inv
          cases r2.ref_inv
          cases rx
          cases ry
          obtain ⟨xs, q1, rr1⟩ := sql_of c hs1
          obtain ⟨ys, q2, rr2⟩ := sql_of c hs2
          obtain ⟨its, w1, t1, _⟩ := I.list q1
          obtain ⟨its2, w2, t2, _⟩ := I.list q2
          unfold eqN at hb
          split at hb
          · rename_i hlen
            obtain ⟨bs, kb, rfl⟩ := Option.map_eq_some_iff.mp hb
            have P := seqPair rr1 w1 rr2 w2 k1 k2 hlen kb
            have el : its.toArray.size = its2.toArray.size := by simpa using P.len
            refine SeqAt.eq_listAt (e := fun j => (bs[j]?).getD true) t1.isList t2.isList el (by omega) ?_ ?_
            · intro j h1 h2
              have h1' : j < its.length := by simpa using h1
              have h2' : j < its2.length := by simpa using h2
              have h3' : j < bs.length := by rw [P.bl]; exact h1'
              obtain ⟨d', e', x', y', sd', se', a1, a2, a3, a4, a5, a6, a7⟩ := P.at_ j h1' h2' h3'
              rw [List.getElem?_eq_getElem h3']
              have := eq_at I c m X.A.in1 d' e' x' y' _ _ sd' se' _ a1 a2 a3 a4 a5 a6 a7 (by have : X.A.in1.units = X.A.units + 1 := rfl; omega)
              simpa using this
            · have e1 : ((List.range its.toArray.size).all (fun j => (bs[j]?).getD true)) = bs.all id :=
                all_of (by simpa using P.bl) fun i b hb => by rw [hb]; rfl
              rw [e1]
              exact fin
          · rename_i hlen
            cases hb
            have n1 := (mapM_some k1).1
            have n2 := (mapM_some k2).1
            have m1 := rr1.length
            have m2 := rr2.length
            have m3 := w1.length
            have m4 := w2.length
            exact SeqAt.eq_list_lengthsAt t1.isList t2.isList (by simp; omega) (by omega) fin
theorem op_neD (hr : Room k X.A) : OpR X (compareOp .NotEq) (rEqD X.K true) := by
  intro pins s σ H x y v u Q I rx ry h
  obtain ⟨d, e, G, n, sd, se, b, r1, r2, c, hn, h1, h2, hb, fl, q⟩ := h
  have hu := hr.units
  have fin : EP X pins σ Q (.bool (!b)) s := ⟨.bl (!b), H, I, rfl, q⟩
  rcases eqN_some hb (fun z => by rw [fl] at z; cases z) with ⟨m, ss, ts, rfl, rfl, rfl⟩ | ⟨m, ss, ts, rfl, rfl, rfl⟩
  · obtain ⟨ds, rfl⟩ := snap_isT h1
    obtain ⟨es, rfl⟩ := snap_isT h2
    · · · obtain ⟨_, ss', em, ez, k1⟩ := snap_tup h1
          cases em
          cases ez
          obtain ⟨m', ts', em, es', k2⟩ := snap_tup h2
          cases em
          cases es'
          obtain ⟨a, xs, rfl, q1, rr1⟩ := r1.tup_inv
          obtain ⟨a', ys, rfl, q2, rr2⟩ := r2.tup_inv
          cases rx
          cases ry
          unfold eqN at hb
          split at hb
          · rename_i hlen
            obtain ⟨bs, kb, rfl⟩ := Option.map_eq_some_iff.mp hb
            obtain ⟨its, w1, t1, _⟩ := I.tuple q1
            obtain ⟨its2, w2, t2, _⟩ := I.tuple q2
            have P := seqPair rr1 w1 rr2 w2 k1 k2 hlen kb
            refine SeqAt.RcNeAt.tuples (e := fun j => (bs[j]?).getD true) (show s.heap.IsTuple a its.toArray from t1) (show s.heap.IsTuple a' its2.toArray from t2) (by omega) ?_ X.prog X.w X.xe _ ?_
            · intro j h1 h2
              have h1' : j < its.length := by simpa using h1
              have h2' : j < its2.length := by simpa using h2
              have h3' : j < bs.length := by rw [P.bl]; exact h1'
              obtain ⟨d', e', x', y', sd', se', a1, a2, a3, a4, a5, a6, a7⟩ := P.at_ j h1' h2' h3'
              rw [List.getElem?_eq_getElem h3']
              have := eq_at I c m X.A.in1 d' e' x' y' _ _ sd' se' _ a1 a2 a3 a4 a5 a6 a7 (by have : X.A.in1.units = X.A.units + 1 := rfl; omega)
              simpa using this
            · have e1 : ((List.range (min its.toArray.size its2.toArray.size)).all (fun j => (bs[j]?).getD true) && its.toArray.size == its2.toArray.size) = bs.all id := by
                have el : its.toArray.size = its2.toArray.size := by simpa using P.len
                rw [el, Nat.min_self, beq_self_eq_true, Bool.and_true]
                exact all_of (by rw [← el]; simpa using P.bl) fun i b hb => by rw [hb]; rfl
              rw [e1]
              exact fin
          · cases hb
  · obtain ⟨a, rfl⟩ := snap_isL h1
    obtain ⟨a', rfl⟩ := snap_isL h2
    · · · obtain ⟨_, ds, ss', em, ez, hs1, k1⟩ := snap_ref h1
          cases em
          cases ez
          obtain ⟨m', es, ts', em, es', hs2, k2⟩ := snap_ref h2
          cases em
          cases es'
          cases r1.ref_inv
          cases r2.ref_inv
          cases rx
          cases ry
          obtain ⟨xs, q1, rr1⟩ := sql_of c hs1
          obtain ⟨ys, q2, rr2⟩ := sql_of c hs2
          obtain ⟨its, w1, t1, _⟩ := I.list q1
          obtain ⟨its2, w2, t2, _⟩ := I.list q2
          unfold eqN at hb
          split at hb
          · rename_i hlen
            obtain ⟨bs, kb, rfl⟩ := Option.map_eq_some_iff.mp hb
            have P := seqPair rr1 w1 rr2 w2 k1 k2 hlen kb
            have el : its.toArray.size = its2.toArray.size := by simpa using P.len
            refine SeqAt.RcNeAt.lists (e := fun j => (bs[j]?).getD true) t1.isList t2.isList el (by omega) ?_ X.prog X.w X.xe _ ?_
            · intro j h1 h2
              have h1' : j < its.length := by simpa using h1
              have h2' : j < its2.length := by simpa using h2
              have h3' : j < bs.length := by rw [P.bl]; exact h1'
              obtain ⟨d', e', x', y', sd', se', a1, a2, a3, a4, a5, a6, a7⟩ := P.at_ j h1' h2' h3'
              rw [List.getElem?_eq_getElem h3']
              have := eq_at I c m X.A.in1 d' e' x' y' _ _ sd' se' _ a1 a2 a3 a4 a5 a6 a7 (by have : X.A.in1.units = X.A.units + 1 := rfl; omega)
              simpa using this
            · have e1 : ((List.range its.toArray.size).all (fun j => (bs[j]?).getD true)) = bs.all id :=
                all_of (by simpa using P.bl) fun i b hb => by rw [hb]; rfl
              rw [e1]
              exact fin
          · rename_i hlen
            cases hb
            have n1 := (mapM_some k1).1
            have n2 := (mapM_some k2).1
            have m1 := rr1.length
            have m2 := rr2.length
            have m3 := w1.length
            have m4 := w2.length
            exact SeqAt.RcNeAt.lists_lengths t1.isList t2.isList (by simp; omega) (by omega) X.prog X.w X.xe _ fin
end
end L3

namespace L3
open PySem PySem.Spec PyProof.Rows L2
set_option maxHeartbeats 4000000
/-! ### a def of the text, its promise -/
structure FnAt (K : PySem.W.Frag) (x qual : Str) (st : Stmt) (ps : List Str) where
  a : Addr
  fd : FuncData
  ex : ∃ (oc : Value) (od : Option Addr) (dV kV doc pm : Value) (an : Option Addr) (cdv ct : Value) (osl : Array (Option Value)),
    fd = PySem.W.fnOf x qual (defArgs st) (defBody st) (defScope st) dV kV doc pm an cdv ct ∧ K.lookup a = some ⟨oc, od, .func fd, osl⟩ ∧ PySem.W.codeIn K cdv qual = true
  kp : PySem.W.keepIn K (.ref a) = true
  b : Binds K fd ps []
noncomputable abbrev Ok (P : Program) (w : World) {K : PySem.W.Frag} (mg : Str → Option Value) (base : Heap) (n : Nat) {x qual : Str} {st : Stmt} {ps : List Str} (d : FnAt K x qual st ps) (S : Sp3) : Prop := FnOk P w K mg base CX0 n d.a d.fd ps (lowSp K S)
noncomputable def startD (N : List Str) (ds : List D) : DSt := ds.map some ++ List.replicate (N.length - ds.length) none
theorem startD_rel {K : PySem.W.Frag} {H : Hp} {N : List Str} {ds : List D} {vs : List V} (r : RelDs K H ds vs) : RelSt K H (startD N ds) (L2.start N vs) := by
  unfold startD L2.start
  refine ⟨by simp [r.length], fun i d e => ?_⟩
  by_cases hi : i < ds.length
  · rw [List.getElem?_append_left (by simpa using hi), List.getElem?_map] at e
    rw [List.getElem?_append_left (by simpa [← r.length] using hi), List.getElem?_map]
    cases h : ds[i]? with
    | none => rw [h] at e; cases e
    | some d' =>
      rw [h] at e; cases e
      obtain ⟨v, hv, rv⟩ := r.get h
      exact ⟨v, by rw [hv]; rfl, rv⟩
  · rw [List.getElem?_append_right (by simpa using hi), List.getElem?_replicate] at e
    split at e <;> cases e
section
variable {P : Program} {w : World} {K : PySem.W.Frag} {mg : Str → Option Value} {base : Heap}
/-- THE RULE for a def -/
theorem def_ok {x qual : Str} {st : Stmt} {ps N : List Str} {k : Nat} (d : FnAt K x qual st ps) {S : Sp3} (sc : FnScope N ps (defScope st)) (hl : ∀ ds G R, S ds G R → ds.length = ps.length) {t : TS3}
    (ht : ∀ (cdv : Value) (A : Around) (outer : List Env) (s : Shared) (H : Hp) (E : XK), Room k (A.deeper (envOfC qual (defScope st) s.heap.objs.size d.a cdv)) → Ss3 (cxOf CX0 P w K mg base N qual (defScope st) d.a cdv A outer s H E).nox (defBody st) t)
    (hb : ∀ ds G R, S ds G R → t { nx := fun _ G' => R .non G', rt := R } (startD N ds) G) : Ok P w mg base (k + 1) d S := by
  obtain ⟨oc, od, dV, kV, doc, pm, an, cdv, ct, osl, e, lk, hcd⟩ := d.ex
  have lk' : K.lookup d.a = some ⟨oc, od, .func (PySem.W.fnOf x qual (defArgs st) (defBody st) (defScope st) dV kV doc pm an cdv ct), osl⟩ := e ▸ lk
  have F : FnOk P w K mg base CX0 (k + 1) d.a (PySem.W.fnOf x qual (defArgs st) (defBody st) (defScope st) dV kV doc pm an cdv ct) ps (lowSp K S) := by
    refine fn_of lk' hcd sc (fun vs H Q E h => ?_) fun A outer s H vs Q E hr h => ?_
    · obtain ⟨ds, G, R, r, _, hS, _⟩ := h
      rw [← r.length]; exact hl ds G R hS
    · obtain ⟨ds, G, R, r, c, hS, f⟩ := h
      refine ⟨_, (show PSs _ _ _ from ht cdv A outer s H E hr).nox, startD N ds, G, _, startD_rel r, c, hb ds G R hS, fun σd' G' σ' H' _ c' l' q => ?_, f, fun _ _ _ _ _ _ _ q => q.elim, fun _ _ _ _ _ _ _ q => q.elim⟩
      exact f .non G' .non H' RelD.nonI c' l' q
  have F2 := F
  rw [← e] at F2
  exact F2
end
section
variable {X : Cx} {e o : Expr} {es : List Expr} {p pos apos : Pos} {ta : TE3} {ts : TA3} {k n : Nat} {S : Sp3} {x m qual : Str} {st : Stmt} {ps : List Str} {C : Addr}
theorem ec (d : FnAt X.K x qual st ps) (hm : X.mg x = some (.ref d.a)) (G : FnOk X.prog X.w X.K X.mg X.base CX0 k d.a d.fd ps (lowSp X.K S)) (hr : Room k X.A) (ha : A3 X (e :: es) ts) (hg : Gl X x := by rfl) (hdb : (x == ("__debug__" : Str)) = false := by decide)
    (he : starEach (e :: es) X.env = (false, eval e X.env) :: starEach es X.env := by rfl) (hpl : (backTo pos (starEach es X.env)).any (·.1) = false := by rfl) : E3 X (.Call (.Name x p) (e :: es) [] pos) (dCall S [] ts) :=
  e_call G hr hg hm d.kp d.b .nil (fun _ => .nil) ha hdb he hpl
theorem em {pl : Sem Bool} (c : Cls X.K C) (d : FnAt X.K m qual st ps) (hm : Meth X.K C m d.a) (G : FnOk X.prog X.w X.K X.mg X.base CX0 k d.a d.fd ps (lowSp X.K S)) (hr : Room k X.A) (he : E3 X o ta) (ha : A3 X (e :: es) ts)
    (hse : starEach (e :: es) X.env = (false, eval e X.env) :: starEach es X.env := by rfl) (hpl : (backTo pos (starEach es X.env)).any (·.1) = false := by rfl)
    (ht : eval (.Call (.Attribute o m apos) (e :: es) [] pos) X.env = (do
      let ov ← eval o X.env
      standAt apos.atName
      let (f, first) ← holding [ov] (getMethod ov m pl)
      callWith pos f first (backTo pos (starEach (e :: es) X.env)) (backToKw pos (keywordEach [] X.env))) := by rfl) : E3 X (.Call (.Attribute o m apos) (e :: es) [] pos) (dMeth C m S [] ta ts) :=
  e_meth he c hm G hr d.b .nil (fun _ => .nil) ha hse hpl ht
end
/-! ### promises -/
noncomputable def spec (pre : List D → Gp → Prop) (post : List D → Gp → D → Gp → Prop) : Sp3 := fun ds G R => pre ds G ∧ ∀ d G', post ds G d G' → R d G'
theorem spec_call {pre : List D → Gp → Prop} {post : List D → Gp → D → Gp → Prop} {ds : List D} {G : Gp} {q : DK} (h : pre ds G) (k : ∀ d G', post ds G d G' → q d G') : ∃ R, spec pre post ds G R ∧ ∀ d G', R d G' → q d G' :=
  ⟨post ds G, ⟨h, fun _ _ z => z⟩, k⟩
/-! ### a block's scope, checked by running -/
noncomputable def blkOk (osc : Scope) (N N' : List Str) (ix : List (Option Nat)) (scope : Scope) : Bool :=
  (scope.kind == .function) && scope.names.all (fun y => y.2 != .cell) && scope.names.all (fun y => y.2 != .local || scope.names.lookup y.1 == some .local) &&
  scope.names.all (fun y => y.2 != .free || osc.names.lookup y.1 == some .cell || osc.names.lookup y.1 == some .free) && (ix.length == N'.length) &&
  (N'.zip ix).all (fun p => match p.2 with | none => true | some j => N[j]? == some p.1 && scope.names.lookup p.1 == some .free)
theorem blk {X : Cx} {osc : Scope} {N N' : List Str} {ix : List (Option Nat)} {scope : Scope} (h1 : X.env.scope = osc) (h2 : X.N = N) (h : blkOk osc N N' ix scope = true) : BlkOk X N' ix scope := by
  unfold blkOk at h
  simp only [Bool.and_eq_true] at h
  obtain ⟨⟨⟨⟨⟨a1, a2⟩, a3⟩, a4⟩, a5⟩, a6⟩ := h
  rw [List.all_eq_true] at a2 a3 a4 a6
  refine ⟨eq_of_beq a1, fun y hy => by simpa using a2 y hy, fun y hy e => ?_, fun y hy e => ?_, eq_of_beq a5, fun i j x e1 e2 => ?_⟩
  · have := a3 y hy
    simp only [e, bne_self_eq_false, Bool.false_or] at this
    exact eq_of_beq this
  · have := a4 y hy
    simp only [e, bne_self_eq_false, Bool.false_or, Bool.or_eq_true, beq_iff_eq] at this
    unfold Env.kindOf
    rw [h1]
    exact this
  · have hz : (N'.zip ix)[i]? = some (x, some j) := by rw [List.getElem?_zip_eq_some]; exact ⟨e1, e2⟩
    have := a6 _ (List.mem_of_getElem? hz)
    simp only [Bool.and_eq_true, beq_iff_eq] at this
    rw [h2]
    exact this
end L3
namespace L3
open PySem PySem.Spec PyProof.Rows L2
set_option maxHeartbeats 4000000
section
variable {X : Cx} {K : PySem.W.Frag} {H : Hp}
/-! ### slices -/
noncomputable def xSlice : RS3 := fun x lo hi G q => match x with
  | .ref a => (match seqOf (G a) with | some ds => ∀ p, G p = none → q (.ref p) (gup G p (.lst (cutD ds lo hi))) | none => False)
  | .tup ds => ¬ (HT.sIx ds.length 0 lo = 0 ∧ HT.sIx ds.length ds.length hi = ds.length) ∧ q (.tup (cutD ds lo hi)) G
  | _ => False
/-! ### built-in functions -/
noncomputable def xLen : C3 := fun ds G q => match ds with
  | [.str z] => z.length ≤ sizeLine ∧ q (.int z.length) G
  | [.tup xs] => q (.int xs.length) G
  | [.ref a] => (match seqOf (G a) with | some xs => q (.int xs.length) G | none => False)
  | _ => False
theorem RelDs.one {d : D} {vs : List V} (h : RelDs K H [d] vs) : ∃ v, vs = [v] ∧ RelD K H d v := by
  obtain ⟨x, r, rfl, h1, h2⟩ := h.inv_cons
  rw [h2.inv_nil]
  exact ⟨x, rfl, h1⟩
theorem RelDs.two {d e : D} {vs : List V} (h : RelDs K H [d, e] vs) : ∃ v u, vs = [v, u] ∧ RelD K H d v ∧ RelD K H e u := by
  obtain ⟨x, r, rfl, h1, h2⟩ := h.inv_cons
  obtain ⟨y, rfl, h3⟩ := h2.one
  exact ⟨x, y, rfl, h1, h3⟩
theorem x_len : Call3 X (.builtin "len") xLen := weakCall (call_len_seq.or call_len_str) <| by
  rintro xs H Q ⟨ds, G, q, r, c, t, f⟩
  unfold xLen at t
  split at t
  · obtain ⟨v, rfl, r1⟩ := r.one
    cases r1.str_inv
    exact .inr ⟨_, rfl, t.1, f _ _ _ _ RelD.intI c (Le.refl H) t.2⟩
  · obtain ⟨v, rfl, r1⟩ := r.one
    obtain ⟨a, ys, rfl, s1, q1⟩ := r1.tup_inv
    refine .inl ⟨a, ys, rfl, .inr s1, ?_⟩
    rw [← q1.length]
    exact f _ _ _ _ RelD.intI c (Le.refl H) t
  · obtain ⟨v, rfl, r1⟩ := r.one
    cases r1.ref_inv
    split at t
    · rename_i ds e
      obtain ⟨ys, s1, q1⟩ := sql_of c e
      refine .inl ⟨_, ys, rfl, .inl s1, ?_⟩
      rw [← q1.length]
      exact f _ _ _ _ RelD.intI c (Le.refl H) t
    · exact t.elim
  · exact t.elim
noncomputable def xAbs : C3 := fun ds G q => match ds with | [.int i] => q (.int (if i < 0 then -i else i)) G | _ => False
theorem x_abs : Call3 X (.builtin "abs") xAbs := weakCall call_abs <| by
  rintro xs H Q ⟨ds, G, q, r, c, t, f⟩
  unfold xAbs at t
  split at t
  · obtain ⟨v, rfl, r1⟩ := r.one
    cases r1.int_inv
    exact ⟨_, rfl, f _ _ _ _ RelD.intI c (Le.refl H) t⟩
  · exact t.elim
noncomputable def xDivmod : C3 := fun ds G q => match ds with | [.int i, .int j] => CDiv i j ∧ q (.tup [.int (i / j), .int (i % j)]) G | _ => False
theorem x_divmod : Call3 X (.builtin "divmod") xDivmod := weakCall call_divmod <| by
  rintro xs H Q ⟨ds, G, q, r, c, t, f⟩
  unfold xDivmod at t
  split at t
  · obtain ⟨v, u, rfl, r1, r2⟩ := r.two
    cases r1.int_inv
    cases r2.int_inv
    refine ⟨_, _, rfl, t.1, fun p hp => f (.tup _) G (.ref p) _ ?_ (c.side hp) (Le.fresh hp) t.2⟩
    rw [RelD]
    exact ⟨p, _, rfl, SqT.of upd_same, .cons RelD.intI (.cons RelD.intI .nil)⟩
  · exact t.elim
noncomputable def xMax2 : C3 := fun ds G q => match ds with | [.int i, .int j] => q (.int (if j > i then j else i)) G | _ => False
noncomputable def xMin2 : C3 := fun ds G q => match ds with | [.int i, .int j] => q (.int (if j < i then j else i)) G | _ => False
theorem x_max2 (hc : X.calm = true := by rfl) : Call3 X (.builtin "max") xMax2 := weakCall (call_max2 hc) <| by
  rintro xs H Q ⟨ds, G, q, r, c, t, f⟩
  unfold xMax2 at t
  split at t
  · obtain ⟨v, u, rfl, r1, r2⟩ := r.two
    cases r1.int_inv
    cases r2.int_inv
    exact ⟨_, _, rfl, f _ _ _ _ RelD.intI c (Le.refl H) t⟩
  · exact t.elim
theorem x_min2 (hc : X.calm = true := by rfl) : Call3 X (.builtin "min") xMin2 := weakCall (call_min2 hc) <| by
  rintro xs H Q ⟨ds, G, q, r, c, t, f⟩
  unfold xMin2 at t
  split at t
  · obtain ⟨v, u, rfl, r1, r2⟩ := r.two
    cases r1.int_inv
    cases r2.int_inv
    exact ⟨_, _, rfl, f _ _ _ _ RelD.intI c (Le.refl H) t⟩
  · exact t.elim
noncomputable def xToInt : C3 := fun ds G q => match ds with | [.int i] => q (.int i) G | [.bl b] => q (.int (if b then 1 else 0)) G | _ => False
theorem x_toInt : Call3 X (.type "int") xToInt := weakCall call_int1 <| by
  rintro xs H Q ⟨ds, G, q, r, c, t, f⟩
  unfold xToInt at t
  split at t
  · obtain ⟨v, rfl, r1⟩ := r.one
    cases r1.int_inv
    exact .inl ⟨_, rfl, f _ _ _ _ RelD.intI c (Le.refl H) t⟩
  · obtain ⟨v, rfl, r1⟩ := r.one
    cases r1.bl_inv
    exact .inr ⟨_, rfl, f _ _ _ _ RelD.intI c (Le.refl H) t⟩
  · exact t.elim
noncomputable def xToList : C3 := fun ds G q => match ds with
  | [.tup xs] => ∀ p, G p = none → q (.ref p) (gup G p (.lst xs))
  | [.ref a] => (match seqOf (G a) with | some xs => ∀ p, G p = none → q (.ref p) (gup G p (.lst xs)) | none => False)
  | _ => False
theorem x_toList : Call3 X (.type "list") xToList := weakCall call_list_of <| by
  rintro xs H Q ⟨ds, G, q, r, c, t, f⟩
  unfold xToList at t
  split at t
  · obtain ⟨v, rfl, r1⟩ := r.one
    obtain ⟨a, ys, rfl, s1, q1⟩ := r1.tup_inv
    exact ⟨a, ys, rfl, .inr s1, fun p hp => f _ _ _ _ RelD.refI (c.lstNew hp q1) (Le.fresh hp) (t p (c.fresh hp))⟩
  · obtain ⟨v, rfl, r1⟩ := r.one
    cases r1.ref_inv
    split at t
    · rename_i ds e
      obtain ⟨ys, s1, q1⟩ := sql_of c e
      exact ⟨_, ys, rfl, .inl s1, fun p hp => f _ _ _ _ RelD.refI (c.lstNew hp q1) (Le.fresh hp) (t p (c.fresh hp))⟩
    · exact t.elim
  · exact t.elim
noncomputable def xToTuple : C3 := fun ds G q => match ds with
  | [.tup xs] => q (.tup xs) G
  | [.ref a] => (match seqOf (G a) with | some xs => q (.tup xs) G | none => False)
  | _ => False
noncomputable def allBl : List D → Option (List Bool)
  | [] => some []
  | .bl b :: r => (allBl r).map (b :: ·)
  | _ => none
theorem allBl_rel : ∀ {ds : List D} {bs : List Bool} {vs : List V}, allBl ds = some bs → RelDs K H ds vs → vs = bs.map V.bl
  | [], bs, vs, e, r => by cases e; rw [r.inv_nil]; rfl
  | .bl b :: ds, bs, vs, e, r => by
    obtain ⟨x, xs, rfl, h1, h2⟩ := r.inv_cons
    obtain ⟨bs', e', rfl⟩ := Option.map_eq_some_iff.mp (show (allBl ds).map (b :: ·) = some bs from e)
    rw [h1.bl_inv, allBl_rel e' h2]
    rfl
  | .non :: _, _, _, e, _ => by cases e
  | .int _ :: _, _, _, e, _ => by cases e
  | .str _ :: _, _, _, e, _ => by cases e
  | .tup _ :: _, _, _, e, _ => by cases e
  | .ref _ :: _, _, _, e, _ => by cases e
  | .ty _ :: _, _, _, e, _ => by cases e
noncomputable def xAll : C3 := fun ds G q => match ds with
  | [.ref a] => (match seqOf (G a) with | some xs => (match allBl xs with | some bs => q (.bl (bs.all id)) G | none => False) | none => False)
  | _ => False
theorem x_all (hc : X.calm = true := by rfl) : Call3 X (.builtin "all") xAll := weakCall (call_all hc) <| by
  rintro xs H Q ⟨ds, G, q, r, c, t, f⟩
  unfold xAll at t
  split at t
  · obtain ⟨v, rfl, r1⟩ := r.one
    cases r1.ref_inv
    split at t
    · rename_i ds e
      obtain ⟨ys, s1, q1⟩ := sql_of c e
      split at t
      · rename_i bs eb
        have := allBl_rel eb q1
        subst this
        exact ⟨_, bs, rfl, s1, f _ _ _ _ RelD.blI c (Le.refl H) t⟩
      · exact t.elim
    · exact t.elim
  · exact t.elim
noncomputable def allInt : List D → Option (List Int)
  | [] => some []
  | .int b :: r => (allInt r).map (b :: ·)
  | _ => none
theorem allInt_rel : ∀ {ds : List D} {bs : List Int} {vs : List V}, allInt ds = some bs → RelDs K H ds vs → vs = bs.map V.int
  | [], bs, vs, e, r => by cases e; rw [r.inv_nil]; rfl
  | .int b :: ds, bs, vs, e, r => by
    obtain ⟨x, xs, rfl, h1, h2⟩ := r.inv_cons
    obtain ⟨bs', e', rfl⟩ := Option.map_eq_some_iff.mp (show (allInt ds).map (b :: ·) = some bs from e)
    rw [h1.int_inv, allInt_rel e' h2]
    rfl
  | .non :: _, _, _, e, _ => by cases e
  | .bl _ :: _, _, _, e, _ => by cases e
  | .str _ :: _, _, _, e, _ => by cases e
  | .tup _ :: _, _, _, e, _ => by cases e
  | .ref _ :: _, _, _, e, _ => by cases e
  | .ty _ :: _, _, _, e, _ => by cases e
noncomputable def xSum : C3 := fun ds G q => match ds with
  | [.ref a] => (match seqOf (G a) with | some xs => (match allInt xs with | some bs => q (.int bs.sum) G | none => False) | none => False)
  | _ => False
theorem x_sum (hc : X.calm = true := by rfl) : Call3 X (.builtin "sum") xSum := weakCall (call_sum hc) <| by
  rintro xs H Q ⟨ds, G, q, r, c, t, f⟩
  unfold xSum at t
  split at t
  · obtain ⟨v, rfl, r1⟩ := r.one
    cases r1.ref_inv
    split at t
    · rename_i ds e
      obtain ⟨ys, s1, q1⟩ := sql_of c e
      split at t
      · rename_i bs eb
        have := allInt_rel eb q1
        subst this
        exact ⟨_, bs, rfl, s1, f _ _ _ _ RelD.intI c (Le.refl H) t⟩
      · exact t.elim
    · exact t.elim
  · exact t.elim
/-! ### isinstance -/
noncomputable def kindD (G : Gp) : D → Option String
  | .non => some "NoneType"
  | .bl _ => some "bool"
  | .int _ => some "int"
  | .str _ => some "str"
  | .ref a => match G a with | some (.lst _) => some "list" | some (.fro _) => some "list" | some (.dic _) => some "dict" | _ => none
  | _ => none
noncomputable def xIsinst : C3 := fun ds G q => match ds with
  | [x, .ty T] => (T = "int" ∨ T = "str" ∨ T = "bool" ∨ T = "list" ∨ T = "tuple" ∨ T = "dict") ∧ (match kindD G x with | some n => q (.bl (subK n T)) G | none => False)
  | _ => False
theorem x_isinst : Call3 X (.builtin "isinstance") xIsinst := weakCall call_isinst <| by
  rintro xs H Q ⟨ds, G, q, r, c, t, f⟩
  unfold xIsinst at t
  split at t
  · rename_i d T
    obtain ⟨v, u, rfl, r1, r2⟩ := r.two
    rw [RelD] at r2
    subst r2
    obtain ⟨hT, t⟩ := t
    split at t
    · rename_i n en
      refine ⟨v, n, T, rfl, ?_, hT, f _ _ _ _ RelD.blI c (Le.refl H) t⟩
      unfold kindD at en
      split at en
      · cases r1.non_inv; cases en; rfl
      · cases r1.bl_inv; cases en; rfl
      · cases r1.int_inv; cases en; rfl
      · cases r1.str_inv; cases en; rfl
      · rename_i a
        cases r1.ref_inv
        split at en
        · rename_i xs ea; cases en; obtain ⟨ys, h1, _⟩ := c _ _ ea; exact .inl ⟨rfl, .inl ⟨ys, h1⟩⟩
        · rename_i xs ea; cases en; obtain ⟨o, ys, h1, _⟩ := c _ _ ea; exact .inl ⟨rfl, .inr ⟨o, ys, h1⟩⟩
        · rename_i xs ea; cases en; obtain ⟨ys, h1, _⟩ := c _ _ ea; exact .inr (.inr ⟨rfl, ys, h1⟩)
        · cases en
      · cases en
    · exact t.elim
  · exact t.elim
/-- the name of a built-in type as a value -/
theorem e_type {x : Str} {T : String} {pos : Pos} (hm : X.mg x = none) (hv : bootBuiltins x = some (.type T)) (hg : Gl X x := by rfl) (hn : x ≠ "__name__" := by decide) (hd : (x == ("__debug__" : Str)) = false := by decide) : E3 X (.Name x pos) (dC (.ty T)) :=
  weakE (pe_bltn (v := .ty T) hg hm hv rfl hn hd) fun _ _ _ => low_c fun _ => by rw [RelD]
/-! ### is -/
noncomputable def xIs2 : R3 := fun x y G q => match y with
  | .non => (match x with | .non => q (.bl true) G | _ => q (.bl false) G)
  | .bl b => (match x with | .bl c => q (.bl (decide (c = b))) G | _ => q (.bl false) G)
  | _ => False
noncomputable def xIsNot2 : R3 := fun x y G q => match y with
  | .non => (match x with | .non => q (.bl false) G | _ => q (.bl true) G)
  | .bl b => (match x with | .bl c => q (.bl (!decide (c = b))) G | _ => q (.bl true) G)
  | _ => False
theorem RelD.not_bl {d : D} {v : V} (h : RelD K H d v) (b : Bool) (n : ∀ c, d ≠ .bl c) : v ≠ .bl b := by
  cases d with
  | bl c => exact absurd rfl (n c)
  | non => rw [h.non_inv]; exact fun z => nomatch z
  | int _ => rw [h.int_inv]; exact fun z => nomatch z
  | str _ => rw [h.str_inv]; exact fun z => nomatch z
  | ref _ => rw [h.ref_inv]; exact fun z => nomatch z
  | ty _ => rw [RelD] at h; rw [h]; exact fun z => nomatch z
  | tup _ => obtain ⟨a, xs, e, _⟩ := h.tup_inv; rw [e]; exact fun z => nomatch z
theorem dec_blbl {c b : Bool} : decide (V.bl c = V.bl b) = decide (c = b) := by cases c <;> cases b <;> rfl
theorem x_is2 : Op3 X (compareOp .Is) xIs2 := weakOp (op_isN.or op_isB) <| by
  rintro x y H Q ⟨d, e, G, q, r1, r2, c, t, f⟩
  unfold xIs2 at t
  split at t
  · refine .inl ⟨r2.non_inv, ?_⟩
    split at t
    · rw [r1.non_inv]
      exact f _ _ _ _ RelD.blI c (Le.refl H) t
    · rename_i hd
      rw [decide_eq_false (r1.not_non fun z => hd z)]
      exact f _ _ _ _ RelD.blI c (Le.refl H) t
  · rename_i b
    refine .inr ⟨b, r2.bl_inv, ?_⟩
    split at t
    · rw [r1.bl_inv, dec_blbl]
      exact f _ _ _ _ RelD.blI c (Le.refl H) t
    · rename_i hd
      rw [decide_eq_false (r1.not_bl b fun z hz => hd z hz)]
      exact f _ _ _ _ RelD.blI c (Le.refl H) t
  · exact t.elim
theorem x_isNot2 : Op3 X (compareOp .IsNot) xIsNot2 := weakOp (op_notN.or op_isNotB) <| by
  rintro x y H Q ⟨d, e, G, q, r1, r2, c, t, f⟩
  unfold xIsNot2 at t
  split at t
  · refine .inl ⟨r2.non_inv, ?_⟩
    split at t
    · rw [r1.non_inv]
      exact f _ _ _ _ RelD.blI c (Le.refl H) t
    · rename_i hd
      rw [decide_eq_false (r1.not_non fun z => hd z)]
      exact f _ _ _ _ RelD.blI c (Le.refl H) t
  · rename_i b
    refine .inr ⟨b, r2.bl_inv, ?_⟩
    split at t
    · rw [r1.bl_inv, dec_blbl]
      exact f _ _ _ _ RelD.blI c (Le.refl H) t
    · rename_i hd
      rw [decide_eq_false (r1.not_bl b fun z hz => hd z hz)]
      exact f _ _ _ _ RelD.blI c (Le.refl H) t
  · exact t.elim
end
/-! ### unpacking, what is walked -/
noncomputable def jSeq (n : Nat) (t : TGs3) : TG3 := fun d σ G q => match d with
  | .tup ds => ds.length = n ∧ t ds σ G q
  | .ref a => (match seqOf (G a) with | some ds => ds.length = n ∧ t ds σ G q | none => False)
  | _ => False
noncomputable def wAny (te : TE3) : TI3 := fun σ G r => te σ G fun x G1 => match x with
  | .ref a => (match seqOf (G1 a) with | some ds => r ⟨ds, fun G => seqOf (G a) = some ds⟩ G1 | none => False)
  | .tup ds => r ⟨ds, fun _ => True⟩ G1
  | _ => False
section
variable {X : Cx} {es : List Expr} {e tg : Expr} {te : TE3} {pos : Pos}
theorem j_seq {k n : Nat} {t : TGs3} (hc : X.calm = true) (h : Js3 X es t) (hn : (assignEach es X.env).length = n := by rfl) (hst : (assignEach es X.env).findIdx? (·.1) = none := by rfl) : J3 X (.Tuple es k pos) (jSeq n t) :=
  weakG (pg_or (pg_tup hc h hn hst) (pg_list hc h hn hst)) fun v σ H Q hh => by
    obtain ⟨d, σd, G, q, r, rs, c, t, f⟩ := hh
    unfold jSeq at t
    split at t
    · rename_i ds
      obtain ⟨a, xs, rfl, s, r2⟩ := r.tup_inv
      exact .inl ⟨a, xs, rfl, s, by rw [← r2.length]; exact t.1, ds, σd, G, q, r2, rs, c, t.2, f⟩
    · rename_i a
      split at t
      · rename_i ds e
        obtain ⟨xs, s, r'⟩ := sql_of c e
        exact .inr ⟨a, xs, r.ref_inv, s, by rw [← r'.length]; exact t.1, ds, σd, G, q, r', rs, c, t.2, f⟩
      · exact t.elim
    · exact t.elim
theorem i_any (h : E3 X e te) : I3 X tg e (wAny te) := weakI (pi_seq h) fun σ H R hh => by
  obtain ⟨σd, G, q, rs, c, t, f⟩ := hh
  refine ⟨σd, G, _, rs, c, t, fun x G1 v H1 r1 c1 l1 t1 => ?_⟩
  split at t1
  · rename_i a
    split at t1
    · rename_i ds e
      obtain ⟨xs, s, _⟩ := sql_of c1 e
      exact ⟨a, r1.ref_inv, .inl ⟨⟨xs, s⟩, f _ _ _ _ itrel_list c1 l1 t1⟩⟩
    · exact t1.elim
  · rename_i ds
    obtain ⟨a, xs, rfl, s, r⟩ := r1.tup_inv
    exact ⟨a, rfl, .inr ⟨⟨xs, s⟩, f _ _ _ _ (itrel_tup s r) c1 l1 t1⟩⟩
  · exact t1.elim
end
/-! ### methods of lists -/
section
variable {X : Cx} {e o : Expr} {es : List Expr} {to : TE3} {ts : TA3} {apos cpos : Pos}
theorem ty_list (K : PySem.W.Frag) : ∀ G H x v, Con K G H → RelD K H x v → tyD G "list" x → tyV K "list" v H := by
  intro G H x v c r t
  cases x with
  | ref a =>
    cases r.ref_inv
    cases e : G a with
    | none => simp [tyD, e] at t
    | some o =>
      cases o with
      | lst ds => obtain ⟨xs, s, _⟩ := sql_of (ds := ds) c (by rw [e]; rfl); exact .inl ⟨rfl, xs, s⟩
      | fro ds => obtain ⟨xs, s, _⟩ := sql_of (ds := ds) c (by rw [e]; rfl); exact .inl ⟨rfl, xs, s⟩
      | dic _ => simp [tyD, e] at t
      | dit _ => simp [tyD, e] at t
      | ins _ _ => simp [tyD, e] at t
  | str _ => simp [tyD] at t
  | int _ => simp [tyD] at t
  | _ => exact t.elim
noncomputable def mAppend : M3 := fun x ds G q => match x, ds with
  | .ref a, [d] => (match G a with | some (.lst xs) => xs.length < sizeLine ∧ q .non (gup G a (.lst (xs ++ [d]))) | _ => False)
  | _, _ => False
theorem e_append (ho : E3 X o to) (ha : A3 X (e :: es) ts) (hbase : attributeBase o "append" X.env (eval o X.env) = eval o X.env := by rfl)
    (hfew : ((backTo cpos (starEach (e :: es) X.env)).all (fun x => !x.1) && (backToKw cpos (keywordEach [] X.env)).all (fun x => x.1.isSome)
      && decide ((e :: es).length + ([] : List Keyword).length + (if ([] : List Keyword).isEmpty then 0 else 1) < 30)) = true := by rfl)
    (hline : (apos.endLine == cpos.line) = true := by rfl) (hs : starEach (e :: es) X.env = (false, eval e X.env) :: starEach es X.env := by rfl) (hplain : (backTo cpos (starEach es X.env)).any (·.1) = false := by rfl) :
    E3 X (.Call (.Attribute o "append" apos) (e :: es) [] cpos) (dBM "list" mAppend to ts) :=
  weakE (pe_bm PySem.F.plainAttrs_list PySem.F.slot_list_append PySem.F.type_list_append (weakMt (r' := lowM X.K mAppend) mt_append <| by
    rintro x xs H Q ⟨d, ds, G, q, r1, r2, c, t, f⟩
    unfold mAppend at t
    split at t
    · rename_i a d'
      split at t
      · rename_i ys ea
        cases r1.ref_inv
        obtain ⟨v, rfl, rv⟩ := r2.one
        obtain ⟨zs, h1, q1⟩ := c _ _ ea
        exact ⟨a, zs, v, rfl, rfl, h1, by rw [← q1.length]; exact t.1, f _ _ _ _ RelD.nonI (c.lstSet h1 (q1.append (.cons rv .nil))) (Le.lst h1) t.2⟩
      · exact t.elim
    · exact t.elim) ho ha hbase hfew hline hs hplain) fun _ _ _ => low_bm (ty_list X.K)
noncomputable def mExtend : M3 := fun x ds G q => match x, ds with
  | .ref a, [.ref b] => (match G a, G b with | some (.lst xs), some (.lst ys) => xs.length + ys.length ≤ sizeLine ∧ q .non (gup G a (.lst (xs ++ ys))) | _, _ => False)
  | _, _ => False
noncomputable def mPop0 : M3 := fun x ds G q => match x, ds with
  | .ref a, [] => (match G a with | some (.lst xs) => (match xs[xs.length - 1]? with | some y => q y (gup G a (.lst xs.dropLast)) | none => False) | _ => False)
  | _, _ => False
noncomputable def mClear0 : M3 := fun x ds G q => match x, ds with
  | .ref a, [] => (match G a with | some (.lst _) => q .non (gup G a (.lst [])) | _ => False)
  | _, _ => False
theorem e_clear0 (ho : E3 X o to) (hbase : attributeBase o "clear" X.env (eval o X.env) = eval o X.env := by rfl) (hline : (apos.endLine == cpos.line) = true := by rfl) : E3 X (.Call (.Attribute o "clear" apos) [] [] cpos) (dBM0 "list" mClear0 to) :=
  weakE (pe_bm0 PySem.F.plainAttrs_list PySem.F.slot_list_clear PySem.F.type_list_clear (weakMt (r' := lowM X.K mClear0) mt_clear <| by
    rintro x xs H Q ⟨d, ds, G, q, r1, r2, c, t, f⟩
    unfold mClear0 at t
    split at t
    · rename_i a
      split at t
      · rename_i ys ea
        cases r1.ref_inv
        cases r2.inv_nil
        obtain ⟨zs, h1, q1⟩ := c _ _ ea
        exact ⟨a, zs, rfl, rfl, h1, f _ _ _ _ RelD.nonI (c.lstSet h1 .nil) (Le.lst h1) t⟩
      · exact t.elim
    · exact t.elim) ho hbase hline) fun _ _ _ => low_bm0 (ty_list X.K)
end
/-! ### ==, != -/
noncomputable def xEqB (neg : Bool) : R3 := fun x y G q => match x, y with
  | .int i, .int j => q (.bl (if neg then !decide (i = j) else decide (i = j))) G
  | .str i, .str j => q (.bl (if neg then !decide (i = j) else decide (i = j))) G
  | .bl i, .bl j => q (.bl (if neg then !decide (i = j) else decide (i = j))) G
  | .non, .non => q (.bl (!neg)) G
  | .non, .int _ => q (.bl neg) G
  | .int _, .non => q (.bl neg) G
  | .non, .bl _ => q (.bl neg) G
  | .bl _, .non => q (.bl neg) G
  | .non, .str _ => q (.bl neg) G
  | .str _, .non => q (.bl neg) G
  | .int _, .str _ => q (.bl neg) G
  | .str _, .int _ => q (.bl neg) G
  | .tup xs, .tup ys => ∃ n sd se b, n ≤ 40 ∧ snap G n (.tup xs) = some sd ∧ snap G n (.tup ys) = some se ∧ eqN n sd se = some b ∧ q (.bl (if neg then !b else b)) G
  | .ref a, .ref c => ∃ n sd se b, n ≤ 40 ∧ snap G n (.ref a) = some sd ∧ snap G n (.ref c) = some se ∧ eqN n sd se = some b ∧ q (.bl (if neg then !b else b)) G
  | _, _ => False

section
variable {X : Cx} {k : Nat}
theorem dec_int' {i j : Int} : decide (V.int i = V.int j) = decide (i = j) := by
  by_cases h : i = j
  · subst h; simp
  · simp [h]
theorem dec_str' {i j : Str} : decide (V.str i = V.str j) = decide (i = j) := by
  by_cases h : i = j
  · subst h; simp
  · simp [h]
theorem snap_nonflat_tup {G : Gp} {n : Nat} {xs : List D} {sd : Sn} (h : snap G n (.tup xs) = some sd) : flatS sd = false := by
  obtain ⟨_, _, _, rfl, _⟩ := snap_tup h; rfl
theorem snap_nonflat_ref {G : Gp} {n : Nat} {a : Addr} {sd : Sn} (h : snap G n (.ref a) = some sd) : flatS sd = false := by
  obtain ⟨_, _, _, _, rfl, _⟩ := snap_ref h; rfl
theorem x_eq (hr : Room k X.A) : Op3 X (compareOp .Eq) (xEqB false) := weakOp (op_eq.or (op_eqD hr)) <| by
  rintro x y H Q ⟨d, e, G, q, r1, r2, c, t, f⟩
  have fin : ∀ b, q (.bl b) G → Q (.bl b) H := fun b z => f _ _ _ _ RelD.blI c (Le.refl H) z
  unfold xEqB at t
  split at t
  · cases r1.int_inv; cases r2.int_inv; exact .inl ⟨rfl, by rw [dec_int']; exact fin _ t⟩
  · cases r1.str_inv; cases r2.str_inv; exact .inl ⟨rfl, by rw [dec_str']; exact fin _ t⟩
  · cases r1.bl_inv; cases r2.bl_inv; exact .inl ⟨rfl, by rw [dec_blbl]; exact fin _ t⟩
  · cases r1.non_inv; cases r2.non_inv; exact .inl ⟨rfl, fin _ t⟩
  · cases r1.non_inv; cases r2.int_inv; exact .inl ⟨rfl, fin _ t⟩
  · cases r1.int_inv; cases r2.non_inv; exact .inl ⟨rfl, fin _ t⟩
  · cases r1.non_inv; cases r2.bl_inv; exact .inl ⟨rfl, fin _ t⟩
  · cases r1.bl_inv; cases r2.non_inv; exact .inl ⟨rfl, fin _ t⟩
  · cases r1.non_inv; cases r2.str_inv; exact .inl ⟨rfl, fin _ t⟩
  · cases r1.str_inv; cases r2.non_inv; exact .inl ⟨rfl, fin _ t⟩
  · cases r1.int_inv; cases r2.str_inv; exact .inl ⟨rfl, fin _ t⟩
  · cases r1.str_inv; cases r2.int_inv; exact .inl ⟨rfl, fin _ t⟩
  · obtain ⟨n, sd, se, b, hn, h1, h2, hb, t⟩ := t
    exact .inr ⟨_, _, G, n, sd, se, b, r1, r2, c, hn, h1, h2, hb, snap_nonflat_tup h1, fin _ t⟩
  · obtain ⟨n, sd, se, b, hn, h1, h2, hb, t⟩ := t
    exact .inr ⟨_, _, G, n, sd, se, b, r1, r2, c, hn, h1, h2, hb, snap_nonflat_ref h1, fin _ t⟩
  · exact t.elim
theorem x_ne (hr : Room k X.A) : Op3 X (compareOp .NotEq) (xEqB true) := weakOp (op_ne.or (op_neD hr)) <| by
  rintro x y H Q ⟨d, e, G, q, r1, r2, c, t, f⟩
  have fin : ∀ b, q (.bl b) G → Q (.bl b) H := fun b z => f _ _ _ _ RelD.blI c (Le.refl H) z
  unfold xEqB at t
  split at t
  · cases r1.int_inv; cases r2.int_inv; exact .inl ⟨rfl, by rw [dec_int']; exact fin _ t⟩
  · cases r1.str_inv; cases r2.str_inv; exact .inl ⟨rfl, by rw [dec_str']; exact fin _ t⟩
  · cases r1.bl_inv; cases r2.bl_inv; exact .inl ⟨rfl, by rw [dec_blbl]; exact fin _ t⟩
  · cases r1.non_inv; cases r2.non_inv; exact .inl ⟨rfl, fin _ t⟩
  · cases r1.non_inv; cases r2.int_inv; exact .inl ⟨rfl, fin _ t⟩
  · cases r1.int_inv; cases r2.non_inv; exact .inl ⟨rfl, fin _ t⟩
  · cases r1.non_inv; cases r2.bl_inv; exact .inl ⟨rfl, fin _ t⟩
  · cases r1.bl_inv; cases r2.non_inv; exact .inl ⟨rfl, fin _ t⟩
  · cases r1.non_inv; cases r2.str_inv; exact .inl ⟨rfl, fin _ t⟩
  · cases r1.str_inv; cases r2.non_inv; exact .inl ⟨rfl, fin _ t⟩
  · cases r1.int_inv; cases r2.str_inv; exact .inl ⟨rfl, fin _ t⟩
  · cases r1.str_inv; cases r2.int_inv; exact .inl ⟨rfl, fin _ t⟩
  · obtain ⟨n, sd, se, b, hn, h1, h2, hb, t⟩ := t
    exact .inr ⟨_, _, G, n, sd, se, b, r1, r2, c, hn, h1, h2, hb, snap_nonflat_tup h1, fin _ t⟩
  · obtain ⟨n, sd, se, b, hn, h1, h2, hb, t⟩ := t
    exact .inr ⟨_, _, G, n, sd, se, b, r1, r2, c, hn, h1, h2, hb, snap_nonflat_ref h1, fin _ t⟩
  · exact t.elim
end
end L3

namespace L3
open PySem PySem.Spec PyProof.Rows L2
set_option maxHeartbeats 4000000
section
variable {X : Cx} {e : Expr} {es : List Expr} {p pos : Pos} {ts : TA3} {k : Nat} {S : Sp3} {x m qual : Str} {st : Stmt} {ps : List Str} {C : Addr}
end
section
variable {X : Cx} {e : Expr} {es : List Expr} {p pos : Pos} {ts : TA3} {k : Nat} {S : Sp3} {x m qual : Str} {st : Stmt} {ps : List Str} {C f : Addr} {fd : FuncData}
end
/-! ### readings: small words -/
theorem ite_d {c A B : Prop} [Decidable c] (h1 : c → A) (h2 : ¬ c → B) : if decide c = true then A else B := by
  by_cases h : c
  · simpa [h] using h1 h
  · simpa [h] using h2 h
theorem seqOf_lst {xs : List D} : seqOf (some (.lst xs)) = some xs := rfl
theorem seqOf_fro {xs : List D} : seqOf (some (.fro xs)) = some xs := rfl

theorem atI_0 {α : Type} {x : α} {xs : List α} : atI (x :: xs) 0 = some x := atI_nat (j := 0) rfl
theorem atI_1 {α : Type} {x y : α} {xs : List α} : atI (x :: y :: xs) 1 = some y := atI_nat (j := 1) rfl
theorem atI_2 {α : Type} {x y z : α} {xs : List α} : atI (x :: y :: z :: xs) 2 = some z := atI_nat (j := 2) rfl
theorem atI_3 {α : Type} {x y z u : α} {xs : List α} : atI (x :: y :: z :: u :: xs) 3 = some u := atI_nat (j := 3) rfl
theorem atI_4 {α : Type} {x y z u v : α} {xs : List α} : atI (x :: y :: z :: u :: v :: xs) 4 = some v := atI_nat (j := 4) rfl
theorem ixN_30 : ixN 3 0 = some 0 := rfl
theorem ixN_31 : ixN 3 1 = some 1 := rfl
theorem ixN_32 : ixN 3 2 = some 2 := rfl
theorem ixN_20 : ixN 2 0 = some 0 := rfl
theorem ixN_21 : ixN 2 1 = some 1 := rfl
theorem ixN_int {n : Nat} {i : Int} (h0 : 0 ≤ i) (h : i < n) : ixN n i = some i.toNat := by
  unfold ixN
  rw [if_pos h0, if_pos h]
theorem atI_int {α : Type} {xs : List α} {i : Int} (h0 : 0 ≤ i) (h : i < xs.length) : atI xs i = some (xs[i.toNat]'(by omega)) := by
  unfold atI
  rw [ixN_int h0 h]
  exact List.getElem?_eq_getElem _
theorem atI_map {α β : Type} {f : α → β} {xs : List α} {i : Int} (h0 : 0 ≤ i) (h : i < xs.length) : atI (xs.map f) i = some (f (xs[i.toNat]'(by omega))) := by
  rw [atI_int h0 (by simpa using h)]
  simp
theorem cmul_l {i j : Int} (h0 : 0 ≤ i) (h : i < 18446744073709551616) : CMul i j := .inl ⟨by omega, by omega⟩
theorem cpow_2 {j : Int} (h0 : 0 ≤ j) (h : j ≤ 1000) : CPow 2 j := ⟨h0, by omega, by decide⟩
theorem cpow_1 {j : Int} (h0 : 0 ≤ j) (h : j ≤ 1000) : CPow 1 j := ⟨h0, by omega, by decide⟩
end L3
namespace L3
theorem call_det {S : Sp3} {ds : List D} {G G1 : Gp} {v : D} {q : DK} (h : ∀ R : DK, R v G1 → S ds G R) (k : q v G1) : ∃ R, S ds G R ∧ ∀ d G', R d G' → q d G' :=
  ⟨fun d G' => d = v ∧ G' = G1, h _ ⟨rfl, rfl⟩, fun _ _ ⟨e1, e2⟩ => by subst e1; subst e2; exact k⟩
theorem call_nd {S : Sp3} {ds : List D} {G : Gp} {post : DK} {q : DK} (h : ∀ R : DK, (∀ d G', post d G' → R d G') → S ds G R) (k : ∀ d G', post d G' → q d G') : ∃ R, S ds G R ∧ ∀ d G', R d G' → q d G' :=
  ⟨post, h _ fun _ _ z => z, k⟩
end L3
namespace L3
theorem forL_ind {ok : Gp → Prop} {g : TG3} {tb : TS3} {E : Ends3} (I : List D → DSt → Gp → Prop) {items : List D} {σ : DSt} {G : Gp} (h0 : I items σ G) (nil : ∀ σ G, I [] σ G → ok G ∧ E.nx σ G)
    (cons : ∀ x r σ G, I (x :: r) σ G → (∀ σ' G', I r σ' G' → forL ok g tb E r σ' G') → ok G ∧ g x σ G fun σ1 G1 => tb { E with nx := forL ok g tb E r, ct := forL ok g tb E r, bk := E.nx } σ1 G1) : forL ok g tb E items σ G := by
  induction items generalizing σ G with
  | nil => exact nil σ G h0
  | cons x r ih => exact cons x r σ G h0 fun σ' G' h => ih h
theorem compL_ind {ok : Gp → Prop} {g : TG3} {tc : TT3} {te : TE3} {p : PySem.Addr} {q : DK} (I : List D → DSt → Gp → Prop) {items : List D} {σ : DSt} {G : Gp} (h0 : I items σ G) (nil : ∀ σ G, I [] σ G → ok G ∧ q (.ref p) G)
    (cons : ∀ x r σ G, I (x :: r) σ G → (∀ σ' G', I r σ' G' → compL ok g tc te p q r σ' G') → ok G ∧ g x σ G fun σ2 G2 => tc σ2 G2 fun b G3 =>
      if b = true then te σ2 G3 fun d G4 => (match G4 p with | some (.lst ys) => ys.length < PySem.sizeLine ∧ compL ok g tc te p q r σ2 (gup G4 p (.lst (ys ++ [d]))) | _ => False)
      else compL ok g tc te p q r σ2 G3) : compL ok g tc te p q items σ G := by
  induction items generalizing σ G with
  | nil => exact nil σ G h0
  | cons x r ih => exact cons x r σ G h0 fun σ' G' h => ih h
end L3

namespace L3
open PySem
end L3

namespace Rw
open PySem PyProof.Rows L2 L3
/-! rows of codes, what they do; data -/
inductive Opd where
  | num (n : Int) | box (y : Nat)
inductive Row where
  | add (x : Nat) (o : Opd) | take (x : Nat) (o : Opd) | turn (x i : Nat) (cs : List (Nat × Nat)) | swap (x y : Nat) | go (x : Nat) (n : Int) (k : Nat) | come (x : Nat) (n : Int) (k : Nat)
noncomputable def Opd.d : Opd → D
  | .num n => .tup [.str "num", .int n]
  | .box y => .tup [.str "box", .int (y : Int)]
noncomputable def cd (c : Nat × Nat) : D := .tup [.int (c.1 : Int), .int (c.2 : Int)]
noncomputable def Row.d : Row → D
  | .add x o => .tup [.str "add", .int (x : Int), o.d]
  | .take x o => .tup [.str "take", .int (x : Int), o.d]
  | .turn x i cs => .tup [.str "turn", .int (x : Int), .int (i : Int), .tup (cs.map cd)]
  | .swap x y => .tup [.str "swap", .int (x : Int), .int (y : Int)]
  | .go x n k => .tup [.str "go", .int (x : Int), .int n, .int (k : Int)]
  | .come x n k => .tup [.str "come", .int (x : Int), .int n, .int (k : Int)]
noncomputable def Opd.ok (sz x : Nat) : Opd → Prop
  | .num n => 0 ≤ n ∧ n < 4294967296
  | .box y => y < sz ∧ y ≠ x
noncomputable def Row.ok (sz : Nat) : Row → Prop
  | .add x o => x < sz ∧ o.ok sz x
  | .take x o => x < sz ∧ o.ok sz x
  | .turn x i cs => x < sz ∧ i < 32 ∧ cs.length ≤ 2 ∧ ∀ c ∈ cs, c.1 < sz ∧ c.1 ≠ x ∧ c.2 < 32
  | .swap x y => x < sz ∧ y < sz ∧ y ≠ x
  | .go x n _ => x < sz ∧ 0 ≤ n ∧ n < 4294967296
  | .come x n _ => x < sz ∧ 0 ≤ n ∧ n < 4294967296
noncomputable def Row.plain : Row → Bool
  | .go _ _ _ => false
  | .come _ _ _ => false
  | _ => true
noncomputable def bit (v : Int) (j : Nat) : Int := v / 2 ^ j % 2
noncomputable def flp (v : Int) (i : Nat) : Int := v + 2 ^ i * (1 - 2 * bit v i)
structure BsOk (sz : Nat) (bs : List Int) : Prop where
  len : bs.length = sz
  rng : ∀ v ∈ bs, 0 ≤ v ∧ v < 4294967296

end Rw

namespace Rw
open PySem L2 L3
theorem snaps_ints {G : Gp} : ∀ ks : List Int, (ks.map D.int).mapM (snap G 0) = some (ks.map Sn.int)
  | [] => rfl
  | k :: ks => by
    rw [List.map_cons, List.mapM_cons, snaps_ints ks]
    rfl
theorem snap_ints {G : Gp} {a : Addr} {ks : List Int} (h : seqOf (G a) = some (ks.map .int)) : snap G 1 (.ref a) = some (.lst (ks.map .int)) := by
  show ((seqOf (G a)).bind fun ds => (ds.mapM (snap G 0)).map Sn.lst) = _
  rw [h, Option.bind_some, snaps_ints]
  rfl
theorem eq_zip : ∀ ks ms : List Int, ks.length = ms.length → ∃ bs, (((ks.map Sn.int).zip (ms.map Sn.int)).mapM fun p => eqN 0 p.1 p.2) = some bs ∧ bs.all id = decide (ks = ms)
  | [], [], _ => ⟨[], rfl, rfl⟩
  | [], _ :: _, h => by simp at h
  | _ :: _, [], h => by simp at h
  | k :: ks, m :: ms, h => by
    obtain ⟨bs, e, q⟩ := eq_zip ks ms (by simpa using h)
    refine ⟨(k == m) :: bs, ?_, ?_⟩
    · rw [List.map_cons, List.map_cons, List.zip_cons_cons, List.mapM_cons, e]
      rfl
    · rw [List.all_cons, q]
      by_cases hk : k = m
      · subst hk; simp
      · simp [hk]
theorem eq_ints {ks ms : List Int} : eqN 1 (.lst (ks.map .int)) (.lst (ms.map .int)) = some (decide (ks = ms)) := by
  show (if (ks.map Sn.int).length = (ms.map Sn.int).length then (((ks.map Sn.int).zip (ms.map Sn.int)).mapM fun p => eqN 0 p.1 p.2).map (fun bs => bs.all id) else some false) = _
  by_cases h : ks.length = ms.length
  · rw [if_pos (by simpa using h)]
    obtain ⟨bs, e, q⟩ := eq_zip ks ms h
    rw [e, Option.map_some, q]
  · rw [if_neg (by simpa using h)]
    have : ks ≠ ms := fun e => h (by rw [e])
    simp [this]
/-- two lists of ints compared -/
theorem cmp_ints {G : Gp} {a b : Addr} {ks ms : List Int} {Q : Bool → Prop} (h1 : seqOf (G a) = some (ks.map .int)) (h2 : seqOf (G b) = some (ms.map .int)) (h : Q (decide (ks = ms))) :
    ∃ n sd se r, n ≤ 40 ∧ snap G n (.ref a) = some sd ∧ snap G n (.ref b) = some se ∧ eqN n sd se = some r ∧ Q r :=
  ⟨1, _, _, _, by decide, snap_ints h1, snap_ints h2, eq_ints, h⟩
end Rw
namespace Rw
open PySem L2 L3
theorem rngD_succ (lo : Int) (n : Nat) : rngD lo (n + 1) = .int lo :: rngD (lo + 1) n := by
  unfold rngD
  rw [List.range_succ_eq_map, List.map_cons, List.map_map]
  congr 1
  · simp
  · apply List.map_congr_left
    intro i _
    show D.int _ = D.int _
    congr 1
    simp
    omega
end Rw
namespace Rw
open PySem L2 L3
structure Grow (G G' : Gp) : Prop where
  kp : ∀ b o, G b = some o → G' b = some o
theorem Grow.refl {G : Gp} : Grow G G := ⟨fun _ _ h => h⟩
theorem Grow.trans {G G1 G2 : Gp} (a : Grow G G1) (b : Grow G1 G2) : Grow G G2 := ⟨fun c o h => b.kp c o (a.kp c o h)⟩
theorem Grow.new {G G1 : Gp} {p : Addr} {o : DO} (a : Grow G G1) (h : G1 p = none) : Grow G (gup G1 p o) := ⟨fun b u e => by rw [gup_ne (gne (a.kp b u e) h)]; exact a.kp b u e⟩
theorem Grow.own {G G1 : Gp} {p : Addr} {o : DO} (a : Grow G G1) (h : G p = none) : Grow G (gup G1 p o) := ⟨fun b u e => by rw [gup_ne (gne e h)]; exact a.kp b u e⟩
theorem Grow.none {G G1 : Gp} {p : Addr} (a : Grow G G1) (h : G1 p = none) : G p = none := by
  cases e : G p with
  | none => rfl
  | some o => rw [a.kp p o e] at h; cases h
end Rw

namespace L3
open PySem
end L3


namespace L3
open PySem PySem.Spec PyProof.Rows L2
theorem xr_all : (∀ i j G q, xEqB false (.int i) (.int j) G q = q (.bl (decide (i = j))) G) ∧ (∀ i j G q, xEqB true (.int i) (.int j) G q = q (.bl (!decide (i = j))) G) ∧
    (∀ i j G q, xEqB false (.str i) (.str j) G q = q (.bl (decide (i = j))) G) ∧ (∀ i j G q, xEqB true (.str i) (.str j) G q = q (.bl (!decide (i = j))) G) ∧
    (∀ a c G q, xEqB false (.ref a) (.ref c) G q = ∃ n sd se b, n ≤ 40 ∧ snap G n (.ref a) = some sd ∧ snap G n (.ref c) = some se ∧ eqN n sd se = some b ∧ q (.bl b) G) ∧
    (∀ a c G q, xEqB true (.ref a) (.ref c) G q = ∃ n sd se b, n ≤ 40 ∧ snap G n (.ref a) = some sd ∧ snap G n (.ref c) = some se ∧ eqN n sd se = some b ∧ q (.bl (!b)) G) ∧
    (∀ a c G q, xEqB false (.tup a) (.tup c) G q = ∃ n sd se b, n ≤ 40 ∧ snap G n (.tup a) = some sd ∧ snap G n (.tup c) = some se ∧ eqN n sd se = some b ∧ q (.bl b) G) ∧
    (∀ a c G q, xEqB true (.tup a) (.tup c) G q = ∃ n sd se b, n ≤ 40 ∧ snap G n (.tup a) = some sd ∧ snap G n (.tup c) = some se ∧ eqN n sd se = some b ∧ q (.bl (!b)) G) ∧
    (∀ i j G q, xAdd (.int i) (.int j) G q = q (.int (i + j)) G) ∧ (∀ i j G q, xMul (.int i) (.int j) G q = (CMul i j ∧ q (.int (i * j)) G)) ∧
    (∀ a k G q, xMul (.ref a) (.int k) G q = (match G a with | some (.lst xs) => (-(2 ^ 63) ≤ k ∧ k < 2 ^ 63 ∧ xs.length * k.toNat ≤ sizeLine) ∧ ∀ p, G p = none → q (.ref p) (gup G p (.lst (List.replicate k.toNat xs).flatten)) | _ => False)) ∧
    (∀ i j G q, xLt (.int i) (.int j) G q = q (.bl (decide (i < j))) G) ∧
    (∀ ds i G q, xIx (.tup ds) (.int i) G q = (match atI ds i with | some d => q d G | none => False)) ∧
    (∀ a i G q, xIx (.ref a) (.int i) G q = (match seqOf (G a) with | some ds => (match atI ds i with | some d => q d G | none => False) | none => False)) ∧
    (∀ xs G q, xLen [.tup xs] G q = q (.int xs.length) G) ∧ (∀ a G q, xLen [.ref a] G q = (match seqOf (G a) with | some xs => q (.int xs.length) G | none => False)) :=
  ⟨fun _ _ _ _ => rfl, fun _ _ _ _ => rfl, fun _ _ _ _ => rfl, fun _ _ _ _ => rfl, fun _ _ _ _ => rfl, fun _ _ _ _ => rfl, fun _ _ _ _ => rfl, fun _ _ _ _ => rfl, fun _ _ _ _ => rfl, fun _ _ _ _ => rfl, fun _ _ _ _ => rfl, fun _ _ _ _ => rfl, fun _ _ _ _ => rfl, fun _ _ _ _ => rfl, fun _ _ _ => rfl, fun _ _ _ => rfl⟩
theorem xs_all : (∀ f i j G q, xInt f (.int i) (.int j) G q = q (.int (f i j)) G) ∧ (∀ C f i j G q, xIntC C f (.int i) (.int j) G q = (C i j ∧ q (.int (f i j)) G)) ∧ (∀ i j G q, xLe (.int i) (.int j) G q = q (.bl (decide (i ≤ j))) G) ∧
    (∀ i j G q, xGt (.int i) (.int j) G q = q (.bl (decide (j < i))) G) ∧ (∀ i j G q, xGe (.int i) (.int j) G q = q (.bl (decide (j ≤ i))) G) ∧ (∀ i G q, xNeg (.int i) G q = q (.int (-i)) G) ∧
    (∀ a k v G q, xSet (.ref a) (.int k) v G q = (match G a with | some (.lst ds) => (match ixN ds.length k with | some j => q (gup G a (.lst (ds.set j v))) | none => False) | _ => False)) ∧
    (∀ a lo hi G q, xSlice (.ref a) lo hi G q = (match seqOf (G a) with | some ds => ∀ p, G p = none → q (.ref p) (gup G p (.lst (cutD ds lo hi))) | none => False)) ∧
    (∀ ds lo hi G q, xSlice (.tup ds) lo hi G q = (¬ (HT.sIx ds.length 0 lo = 0 ∧ HT.sIx ds.length ds.length hi = ds.length) ∧ q (.tup (cutD ds lo hi)) G)) ∧
    (∀ x G q, xIs2 x .non G q = (match x with | .non => q (.bl true) G | _ => q (.bl false) G)) ∧ (∀ x b G q, xIs2 x (.bl b) G q = (match x with | .bl c => q (.bl (decide (c = b))) G | _ => q (.bl false) G)) ∧
    (∀ x G q, xIsNot2 x .non G q = (match x with | .non => q (.bl false) G | _ => q (.bl true) G)) ∧ (∀ x b G q, xIsNot2 x (.bl b) G q = (match x with | .bl c => q (.bl (!decide (c = b))) G | _ => q (.bl true) G)) ∧
    (∀ i G q, xAbs [.int i] G q = q (.int (if i < 0 then -i else i)) G) ∧ (∀ i j G q, xDivmod [.int i, .int j] G q = (CDiv i j ∧ q (.tup [.int (i / j), .int (i % j)]) G)) ∧
    (∀ i j G q, xMax2 [.int i, .int j] G q = q (.int (if j > i then j else i)) G) ∧ (∀ i j G q, xMin2 [.int i, .int j] G q = q (.int (if j < i then j else i)) G) ∧
    (∀ i G q, xToInt [.int i] G q = q (.int i) G) ∧ (∀ b G q, xToInt [.bl b] G q = q (.int (if b then 1 else 0)) G) ∧
    (∀ xs G q, xToList [.tup xs] G q = ∀ p, G p = none → q (.ref p) (gup G p (.lst xs))) ∧ (∀ a G q, xToList [.ref a] G q = (match seqOf (G a) with | some xs => ∀ p, G p = none → q (.ref p) (gup G p (.lst xs)) | none => False)) ∧
    (∀ xs G q, xToTuple [.tup xs] G q = q (.tup xs) G) ∧ (∀ a G q, xToTuple [.ref a] G q = (match seqOf (G a) with | some xs => q (.tup xs) G | none => False)) ∧
    (∀ a G q, xAll [.ref a] G q = (match seqOf (G a) with | some xs => (match allBl xs with | some bs => q (.bl (bs.all id)) G | none => False) | none => False)) ∧
    (∀ x T G q, xIsinst [x, .ty T] G q = ((T = "int" ∨ T = "str" ∨ T = "bool" ∨ T = "list" ∨ T = "tuple" ∨ T = "dict") ∧ (match kindD G x with | some n => q (.bl (subK n T)) G | none => False))) ∧
    (∀ a d G q, mAppend (.ref a) [d] G q = (match G a with | some (.lst xs) => xs.length < sizeLine ∧ q .non (gup G a (.lst (xs ++ [d]))) | _ => False)) ∧
    (∀ a b G q, mExtend (.ref a) [.ref b] G q = (match G a, G b with | some (.lst xs), some (.lst ys) => xs.length + ys.length ≤ sizeLine ∧ q .non (gup G a (.lst (xs ++ ys))) | _, _ => False)) ∧
    (∀ a G q, mClear0 (.ref a) [] G q = (match G a with | some (.lst _) => q .non (gup G a (.lst [])) | _ => False)) := by
  refine ⟨?_, ?_, ?_, ?_, ?_, ?_, ?_, ?_, ?_, ?_, ?_, ?_, ?_, ?_, ?_, ?_, ?_, ?_, ?_, ?_, ?_, ?_, ?_, ?_, ?_, ?_, ?_, ?_⟩ <;> intros <;> rfl
end L3

namespace L2
open PySem PySem.Spec PyProof.Rows
section
variable {X : Cx} {e : Expr} {st : Expr} {te : TE} {ts : TO} {pos p2 : Pos}
theorem pick_back (its : List Value) : slicePick its.toArray none none (some (-1)) = its.reverse.toArray := by
  unfold slicePick sliceBounds sliceRange
  simp only [Option.getD_some, show ¬ ((-1 : Int) > 0) by decide, if_false, List.size_toArray]
  congr 1
  have hc : (if (its.length : Int) - 1 > -1 then ((its.length : Int) - 1 - -1 - -1 - 1) / (- -1) else 0).toNat = its.length := by
    cases its with
    | nil => rfl
    | cons x xs =>
      rw [if_pos (by simp; omega)]
      simp
  rw [hc, List.filterMap_map]
  apply List.ext_getElem?
  intro i
  have hf : ∀ (n : Nat) (f : Nat → Option Value), (∀ k, k < n → ∃ v, f k = some v) → ∀ i, ((List.range n).filterMap f)[i]? = if i < n then f i else none := by
    intro n f h
    obtain ⟨g, hg⟩ : ∃ g : Nat → Value, ∀ k, k < n → f k = some (g k) := ⟨fun k => (f k).getD .none, fun k hk => by obtain ⟨v, hv⟩ := h k hk; show f k = some ((f k).getD .none); rw [hv]; rfl⟩
    have e : (List.range n).filterMap f = (List.range n).map g := by
      have go : ∀ l : List Nat, (∀ k ∈ l, k < n) → l.filterMap f = l.map g := by
        intro l
        induction l with
        | nil => intro _; rfl
        | cons k l ih => intro hl; rw [List.filterMap_cons, hg k (hl k List.mem_cons_self), List.map_cons, ih fun z hz => hl z (List.mem_cons_of_mem _ hz)]
      exact go _ fun k hk => List.mem_range.mp hk
    intro i
    rw [e, List.getElem?_map]
    by_cases hi : i < n
    · rw [List.getElem?_range hi, if_pos hi, hg i hi]; rfl
    · rw [List.getElem?_eq_none (by simpa using hi), if_neg hi]; rfl
  rw [hf]
  · by_cases hi : i < its.length
    · rw [if_pos hi, List.getElem?_reverse hi]
      show its.toArray[((its.length : Int) - 1 + -1 * (i : Int)).toNat]? = _
      have : ((its.length : Int) - 1 + -1 * (i : Int)).toNat = its.length - 1 - i := by omega
      rw [this]
      simp
    · rw [if_neg hi, List.getElem?_eq_none (by simpa using hi)]
  · intro k hk
    show ∃ v, its.toArray[((its.length : Int) - 1 + -1 * (k : Int)).toNat]? = some v
    have : ((its.length : Int) - 1 + -1 * (k : Int)).toNat = its.length - 1 - k := by omega
    rw [this]
    exact ⟨its[its.length - 1 - k]'(by omega), by simp⟩
/-- xs[::-1] of a list: a new list -/
noncomputable def tBack (K : PySem.W.Frag) (te : TE) (ts : TO) : TE := fun σ H Q => te σ H fun x H1 => ts σ H1 fun k H2 => k = some (-1) ∧ ∃ a xs, x = .ref a ∧ SqL K H2 a xs ∧ ∀ p, H2 p = none → Q (.ref p) (upd H2 p (.lst xs.reverse))
theorem pe_back (he : PE X e te) (hs : PO X (some st) ts) : PE X (.Subscript e (.Slice none none (some st) p2) pos) (tBack X.K te ts) := by
  intro pins s σ H Q I h
  refine Subscript_ (thn (he pins s σ H _ I h) fun v s1 ⟨x, H1, I1, r1, q1⟩ => ?_)
  refine wpAny_Slice ?_
  rw [evalPart_none]
  refine wpAny_pure (wpAny_pure (thn (hs pins s1 σ H1 _ I1 q1) fun vs s3 ⟨k, H3, I3, pk, q3⟩ => ?_))
  obtain ⟨rfl, a, xs, rfl, hx, q⟩ := q3
  cases r1
  have I4 : Inv X pins σ H3 { s3 with heap := s3.heap.push { cls := .type "slice", data := .fields #[.none, .none, vs] } } := I3.kept (t' := s3.toks) fun b ob q => Heap.get?_push_of_some _ q
  obtain ⟨its, r, ht, hz⟩ := I4.list hx
  have hlen := r.length
  show wpAny (model X.prog X.w) X.A (subscriptTail e (.Slice none none (some st) p2) (.ref a) (.ref s3.heap.objs.size)) (EP X pins σ Q) X.xe { s3 with heap := s3.heap.push { cls := .type "slice", data := .fields #[.none, .none, vs] } }
  refine tail_any (ops := [.ref a, .ref s3.heap.objs.size]) ht.isList.typeIs slot_list_getitem.lookup ?_ (by with_unfolding_all rfl)
  refine wpAny_getItem_list_slice ht.isList (Heap.IsSliceOf.new ..) .none .none pk (by decide) ?_ (by rw [List.size_toArray] <;> omega)
  rw [pick_back]
  refine ⟨.ref _, _, I4.laid (t' := s3.toks) (o := .lst xs.reverse) (fun b ob q => Heap.get?_push_of_some _ q) (Nat.le_refl _) ?_, rfl, q _ (I4.hok.fresh (Nat.le_refl _))⟩
  exact ⟨by rw [List.length_reverse]; exact hz, _, 0, r.reverse, Heap.get?_push_size _ rfl⟩
end
end L2
namespace L3
open PySem PySem.Spec PyProof.Rows L2
section
variable {X : Cx} {e : Expr} {te : TE3} {pos p2 p3 p4 : Pos} {K : PySem.W.Frag} {σ : L2.St} {H : Hp} {Q : VK}
/-- xs[::-1] -/
noncomputable def dBack (te : TE3) : TE3 := fun σ G q => te σ G fun x G1 => match x with
  | .ref a => (match seqOf (G1 a) with | some ds => ∀ p, G1 p = none → q (.ref p) (gup G1 p (.lst ds.reverse)) | none => False)
  | _ => False
theorem low_back (h : lowE K (dBack te) σ H Q) : tBack K (lowE K te) (lowO K (dPart (dUn xNeg (dC (.int 1))))) σ H Q := by
  obtain ⟨σd, G, q, rs, c, t, f⟩ := h
  refine ⟨σd, G, _, rs, c, t, fun x G1 v H1 r1 c1 l1 t1 => ⟨σd, G1, fun o G2 => o = some (-1) ∧ G2 = G1, rs.le l1, c1, ⟨rfl, rfl⟩, fun o G2 H2 c2 l2 e2 => ?_⟩⟩
  obtain ⟨rfl, rfl⟩ := e2
  refine ⟨rfl, ?_⟩
  split at t1
  · rename_i a
    split at t1
    · rename_i ds e
      obtain ⟨xs, s1, q1⟩ := sql_of c2 e
      exact ⟨a, xs, r1.ref_inv, s1, fun p hp => f _ _ _ _ RelD.refI (c2.lstNew hp q1.reverse) ((l1.trans l2).trans (Le.fresh hp)) (t1 p (c2.fresh hp))⟩
    · exact t1.elim
  · exact t1.elim
theorem e_back {k : Nat} (he : E3 X e te) : E3 X (.Subscript e (.Slice none none (some (.UnaryOp .USub (.Constant (.int 1) k p3) p4)) p2) pos) (dBack te) :=
  weakE (pe_back he (o_some (e_un x_neg e_int))) fun _ _ _ => low_back
end
end L3

namespace L3
open PySem PySem.Spec PyProof.Rows L2
noncomputable def strsOf : List D → Option (List Str)
  | [] => some []
  | .str x :: r => (strsOf r).map (x :: ·)
  | _ => none
noncomputable def intsOf : List D → Option (List Int)
  | [] => some []
  | .int x :: r => (intsOf r).map (x :: ·)
  | _ => none
section
variable {X : Cx} {K : PySem.W.Frag} {H : Hp}
theorem strsOf_rel : ∀ {ds : List D} {ws : List Str} {vs : List V}, strsOf ds = some ws → RelDs K H ds vs → vs = ws.map V.str
  | [], ws, vs, e, r => by cases e; rw [r.inv_nil]; rfl
  | .str b :: ds, ws, vs, e, r => by
    obtain ⟨x, xs, rfl, h1, h2⟩ := r.inv_cons
    obtain ⟨ws', e', rfl⟩ := Option.map_eq_some_iff.mp (show (strsOf ds).map (b :: ·) = some ws from e)
    rw [h1.str_inv, strsOf_rel e' h2]; rfl
  | .non :: _, _, _, e, _ => by cases e
  | .bl _ :: _, _, _, e, _ => by cases e
  | .int _ :: _, _, _, e, _ => by cases e
  | .tup _ :: _, _, _, e, _ => by cases e
  | .ref _ :: _, _, _, e, _ => by cases e
  | .ty _ :: _, _, _, e, _ => by cases e
theorem intsOf_rel : ∀ {ds : List D} {ws : List Int} {vs : List V}, intsOf ds = some ws → RelDs K H ds vs → vs = ws.map V.int
  | [], ws, vs, e, r => by cases e; rw [r.inv_nil]; rfl
  | .int b :: ds, ws, vs, e, r => by
    obtain ⟨x, xs, rfl, h1, h2⟩ := r.inv_cons
    obtain ⟨ws', e', rfl⟩ := Option.map_eq_some_iff.mp (show (intsOf ds).map (b :: ·) = some ws from e)
    rw [h1.int_inv, intsOf_rel e' h2]; rfl
  | .non :: _, _, _, e, _ => by cases e
  | .bl _ :: _, _, _, e, _ => by cases e
  | .str _ :: _, _, _, e, _ => by cases e
  | .tup _ :: _, _, _, e, _ => by cases e
  | .ref _ :: _, _, _, e, _ => by cases e
  | .ty _ :: _, _, _, e, _ => by cases e
theorem in_strs {w : Str} {ws : List Str} : inV (V.str w) (ws.map V.str) = decide (w ∈ ws) := by
  unfold inV
  induction ws with
  | nil => rfl
  | cons x xs ih =>
    rw [List.map_cons, List.any_cons, ih]
    show ((x == w) || decide (w ∈ xs)) = _
    by_cases h : x = w
    · subst h; simp
    · have h' : ¬ w = x := fun e => h e.symm
      have : (x == w) = false := by simpa using h
      rw [this]; simp [h']
theorem in_ints {w : Int} {ws : List Int} : inV (V.int w) (ws.map V.int) = decide (w ∈ ws) := by
  unfold inV
  induction ws with
  | nil => rfl
  | cons x xs ih =>
    rw [List.map_cons, List.any_cons, ih]
    show ((x == w) || decide (w ∈ xs)) = _
    by_cases h : x = w
    · subst h; simp
    · have h' : ¬ w = x := fun e => h e.symm
      have : (x == w) = false := by simpa using h
      rw [this]; simp [h']
theorem flat_strs : ∀ ws : List Str, (ws.map V.str).all flatV = true
  | [] => rfl
  | _ :: ws => by rw [List.map_cons, List.all_cons, flat_strs ws]; rfl
theorem flat_ints : ∀ ws : List Int, (ws.map V.int).all flatV = true
  | [] => rfl
  | _ :: ws => by rw [List.map_cons, List.all_cons, flat_ints ws]; rfl
/-- in, not in: a text among texts, an int among ints -/
noncomputable def xInB (neg : Bool) : R3 := fun x y G q => match x, y with
  | .str w, .tup ds => (match strsOf ds with | some ws => q (.bl (if neg then !decide (w ∈ ws) else decide (w ∈ ws))) G | none => False)
  | .str w, .ref a => (match seqOf (G a) with | some ds => (match strsOf ds with | some ws => q (.bl (if neg then !decide (w ∈ ws) else decide (w ∈ ws))) G | none => False) | none => False)
  | .int w, .tup ds => (match intsOf ds with | some ws => q (.bl (if neg then !decide (w ∈ ws) else decide (w ∈ ws))) G | none => False)
  | .int w, .ref a => (match seqOf (G a) with | some ds => (match intsOf ds with | some ws => q (.bl (if neg then !decide (w ∈ ws) else decide (w ∈ ws))) G | none => False) | none => False)
  | _, _ => False
theorem low_in {neg : Bool} {x y : V} {Q : VK} (h : lowR K (xInB neg) x y H Q) : rIn K neg x y H Q := by
  obtain ⟨d, e, G, q, r1, r2, c, t, f⟩ := h
  unfold xInB at t
  split at t
  · rename_i w ds
    split at t
    · rename_i ws es
      obtain ⟨a, xs, rfl, s1, q1⟩ := r2.tup_inv
      cases r1.str_inv
      obtain rfl := strsOf_rel es q1
      exact ⟨a, _, rfl, .inr s1, rfl, flat_strs ws, f _ _ _ _ (by rw [in_strs]; exact RelD.blI) c (Le.refl H) t⟩
    · exact t.elim
  · rename_i w a
    split at t
    · rename_i ds eq
      split at t
      · rename_i ws es
        obtain ⟨xs, s1, q1⟩ := sql_of c eq
        cases r1.str_inv
        obtain rfl := strsOf_rel es q1
        exact ⟨a, _, r2.ref_inv, .inl s1, rfl, flat_strs ws, f _ _ _ _ (by rw [in_strs]; exact RelD.blI) c (Le.refl H) t⟩
      · exact t.elim
    · exact t.elim
  · rename_i w ds
    split at t
    · rename_i ws es
      obtain ⟨a, xs, rfl, s1, q1⟩ := r2.tup_inv
      cases r1.int_inv
      obtain rfl := intsOf_rel es q1
      exact ⟨a, _, rfl, .inr s1, rfl, flat_ints ws, f _ _ _ _ (by rw [in_ints]; exact RelD.blI) c (Le.refl H) t⟩
    · exact t.elim
  · rename_i w a
    split at t
    · rename_i ds eq
      split at t
      · rename_i ws es
        obtain ⟨xs, s1, q1⟩ := sql_of c eq
        cases r1.int_inv
        obtain rfl := intsOf_rel es q1
        exact ⟨a, _, r2.ref_inv, .inl s1, rfl, flat_ints ws, f _ _ _ _ (by rw [in_ints]; exact RelD.blI) c (Le.refl H) t⟩
      · exact t.elim
    · exact t.elim
  · exact t.elim
theorem x_in {k : Nat} {A : Around} (_ : Room k A) : Op3 X (compareOp .In) (xInB false) := weakOp op_in_seq fun _ _ _ _ h => low_in h
theorem x_notIn {k : Nat} {A : Around} (_ : Room k A) : Op3 X (compareOp .NotIn) (xInB true) := weakOp op_notIn_seq fun _ _ _ _ h => low_in h
end
end L3

namespace L2
open PySem PySem.Spec PyProof.Rows
/-- enumerate of the list at a -/
noncomputable def Ite (K : PySem.W.Frag) (a : Addr) : It :=
  ⟨fun i H => ∃ xs x, SqL K H a xs ∧ xs[i]? = some x, fun i H v H' => ∃ p x, v = .ref p ∧ H p = none ∧ H' = upd H p (.tup [.int (i : Int), x]) ∧ ∀ xs, SqL K H a xs → xs[i]? = some x, fun i H => ∃ xs, SqL K H a xs ∧ xs.length ≤ i⟩
/-- two untracked records of ours turned, a tuple was laid -/
theorem Inv.turnedT {X : Cx} {pins : List (Addr × Obj)} {σ : List (Option V)} {H : Hp} {s : Shared} {h' : Heap} {t' : Nat} {e it : Addr} {o : HO} (I : Inv X pins σ H s) (k : ∀ b o, b ≠ e → b ≠ it → s.heap.get? b = some o → h'.get? b = some o)
    (f : ∀ b ∈ [e, it], FpOk X pins H b) (new : ObjOk X.prog X.w (upd H s.heap.objs.size o) h' s.heap.objs.size o) : Inv X pins σ (upd H s.heap.objs.size o) { s with heap := h', toks := t' } := by
  have hn : H s.heap.objs.size = none := I.hok.fresh (Nat.le_refl _)
  have f1 := f e (by simp)
  have f2 := f it (by simp)
  have old : ∀ b u, H b = some u → b ≠ s.heap.objs.size := fun b u q z => by rw [z, hn] at q; cases q
  have nit : ∀ b u, H b = some u → b ≠ e ∧ b ≠ it := fun b u q => ⟨fun z => (by rw [z, f1.1] at q; cases q), fun z => (by rw [z, f2.1] at q; cases q)⟩
  have nch : ∀ {b : Addr}, b ∉ [e, it] → b ≠ e ∧ b ≠ it := fun hc => ⟨fun z => hc (by simp [z]), fun z => hc (by simp [z])⟩
  refine I.step (g' := s.gens) (d' := s.drawn) (ch := [e, it]) (fun b hb => ?_) (fun b o _ _ hc q _ => k b o (nch hc).1 (nch hc).2 q) (fun b o _ _ hc q _ => ⟨o.slots, k b o (nch hc).1 (nch hc).2 q⟩) (fun b u _ q n => ?_)
    (fun b o hc q => ⟨o, k b o (nch hc).1 (nch hc).2 q⟩) (fun b xs q => ?_) (fun b o u q => ?_) (fun b ps q => ⟨#[], ?_⟩) (fun m hm => ?_) (fun b u q => ?_) I.bare
  · obtain ⟨g0, g1, g2, g3, g4, g5⟩ := f b hb
    exact ⟨g3, g1, g4, g5⟩
  · rw [upd_ne (Nat.ne_of_lt (Heap.lt_size q))]; exact n
  · rw [upd_ne (old b _ q)]; exact q
  · rw [upd_ne (old b _ q)]; exact q
  · rw [upd_ne (old b _ q), q]; simp
  · obtain ⟨o, es, ep, ho, r⟩ := hm
    exact ⟨o, es, ep, k _ o (Ne.symm f1.2.1) (Ne.symm f2.2.1) ho, r⟩
  · by_cases hb : b = s.heap.objs.size
    · subst hb; rw [upd_same] at q; cases q; exact new
    · rw [upd_ne hb] at q
      refine (I.hok b u q).stay (fun c v hc z => ?_) (fun c z => by rw [upd_ne (old c _ z)]; exact z) fun c xs z => by rw [upd_ne (old c _ z)]; exact z
      rcases hc with y | y
      · subst y; exact k _ v (nit _ u q).1 (nit _ u q).2 z
      · exact k c v (nit c _ y).1 (nit c _ y).2 z
theorem turn_enum {P : Program} {w : World} {K : PySem.W.Frag} {elts : List Expr} {x1} {pos : Pos} (a e it : Addr) (hne : e ≠ it) : Turn P w K (.Tuple elts x1 pos) (Ite K a) [e, it] e (fun i h => (∃ old, IsEnum h e it (i : Int) old) ∧ h.IsListIter it a i) where
  mem := by simp
  obj := fun i h st b hb => by
    obtain ⟨⟨old, st1⟩, st2⟩ := st
    rcases List.mem_cons.mp hb with q | q
    · subst q
      exact ⟨_, st1, fun v z => by
        have z' : Data.fields _ = Data.cell v := z
        cases z'⟩
    · have q : b = it := by simpa using q
      subst q
      obtain ⟨o, e, c, d⟩ := st2
      exact ⟨o, e, fun v z => by rw [d] at z; cases z⟩
  keep := fun i h h' st k => ⟨st.1.elim fun old q => ⟨old, k e (by simp) _ q⟩, st.2.at fun o q => k it (by simp) o q⟩
  item := by
    intro X hP hw hK hc i pins s σ H E I hf st hg
    subst hP hw hK
    obtain ⟨⟨old, st1⟩, st2⟩ := st
    obtain ⟨xs, x, hq, hx⟩ := hg
    obtain ⟨its, rv, p, hz⟩ := I.list hq
    obtain ⟨u, hu, ru⟩ := rv.get hx
    have hel : e < s.heap.objs.size := Heap.lt_size st1
    have hn : H s.heap.objs.size = none := I.hok.fresh (Nat.le_refl _)
    refine wpAny_pyNext_enum_item st1 st2 p.isList (x := u) (by simpa using hu) hne fun h1 ho hit1 ht1 hz1 hk1 => ?_
    refine ⟨_, rfl, wpAny_letOwnedTupleGo_enum ho fun h2 he2 hs2 => ?_⟩
    replace hs2 : Heap.SameBut e h1 h2 := hs2
    have hk2 : ∀ b o, b ≠ e → b ≠ it → s.heap.get? b = some o → h2.get? b = some o := fun b o h1' h2' q => (hs2.2 b h1').trans (hk1 b o h1' h2' q)
    have ht2 := (hs2.2 s.heap.objs.size (Nat.ne_of_gt hel)).trans ht1
    refine ⟨.ref s.heap.objs.size, upd H s.heap.objs.size (.tup [.int (i : Int), x]), I.turnedT (t' := s.toks + 1) hk2 hf ?_, rfl, ⟨_, x, rfl, hn, rfl, fun ys hy => by rw [I.list_inj hy hq]; exact hx⟩, ⟨⟨u, by simpa using he2⟩, ?_⟩, fun b hb => ?_⟩
    · exact ⟨show 2 ≤ sizeLine by decide, [.int i s.toks, u], .cons ⟨s.toks, rfl⟩ (.cons ru .nil), ⟨_, ht2, rfl, _, rfl⟩⟩
    · exact hit1.at fun o q => (hs2.2 it (Ne.symm hne)).trans q
    · rw [upd_ne ?_]; exact (hf b hb).1
      intro z
      rcases List.mem_cons.mp hb with q | q
      · exact Nat.ne_of_lt hel (q ▸ z)
      · have q : b = it := by simpa using q
        obtain ⟨o, y, _⟩ := st2
        exact Nat.ne_of_lt (Heap.lt_size y) (q ▸ z)
  done := by
    intro X hP hw hK hc i pins s σ H E I hf st hg
    subst hP hw hK
    obtain ⟨⟨old, st1⟩, st2⟩ := st
    obtain ⟨xs, hq, hx⟩ := hg
    obtain ⟨its, rv, p, hz⟩ := I.list hq
    obtain ⟨f0, f1, f2, f3, f4, f5⟩ := hf it (by simp)
    have hl := rv.length
    exact wpAny_pyNext_enum_end (I.ok.hd hc) st1 st2 p.isList (by simp; omega) fun h' eb => ⟨rfl, I.turned (t' := s.toks) (fun b o hb q => eb b o hb q) f0 f1 f3 f4 f5⟩
  self := fun _ _ _ _ _ st h => st.1.elim fun _ q => wpAny_pyIter_enum q h
noncomputable def iEnum (K : PySem.W.Frag) (ta : TA) : TI := fun σ H R => ta σ H fun vs H1 => ∃ a, vs = [.ref a] ∧ (∃ xs, SqL K H1 a xs) ∧ R (Ite K a) H1
theorem boot_enum : bootBuiltins "enumerate" = some (.type "enumerate") := by decide +kernel
theorem pi_enum {X : Cx} {elts : List Expr} {x1} {tpos : Pos} {a : Expr} {ta : TA} {p pos : Pos} (hg : Gl X "enumerate") (hm : X.mg "enumerate" = none) (ha : PA X [a] ta) (hs : starEach [a] X.env = [(false, eval a X.env)] := by rfl) :
    PI X (.Tuple elts x1 tpos) (.Call (.Name "enumerate" p) [a] [] pos) (iEnum X.K ta) := by
  intro pins s σ H R I h
  refine Call_ (ld_blt I hg hm boot_enum (PyProof.Rows.callWith_type1 (thn (ha pos pins s σ H _ I h) fun us s1 ⟨vs, H1, I1, r1, q1⟩ => ?_) hs rfl))
  obtain ⟨l, e, ⟨xs, hq⟩, q⟩ := q1
  subst e
  cases r1 with
  | cons r rr =>
    cases rr
    cases r
    obtain ⟨its, rv, pl, hz⟩ := I1.list hq
    refine call_enumerate_list pl.isList fun h' he hit hsz hk => ?_
    refine wpAny_pyIter_enum he ?_
    have I2 : Inv X pins σ H1 { s1 with heap := h' } := I1.kept (t' := s1.toks) hk
    refine ⟨s1.heap.objs.size + 1, [s1.heap.objs.size + 1, s1.heap.objs.size], _, _, H1, rfl, I2, turn_enum l _ _ (Nat.succ_ne_self _), ⟨⟨.none, he⟩, hit⟩, fun b hb => ?_, q⟩
    have hb : s1.heap.objs.size ≤ b := by
      rcases List.mem_cons.mp hb with z | z
      · rw [z]; exact Nat.le_succ _
      · have e : b = s1.heap.objs.size := by simpa using z
        rw [e]; exact Nat.le_refl _
    exact I1.fpOk hb (I1.hok.fresh hb)
end L2
namespace L3
open PySem PySem.Spec PyProof.Rows L2
noncomputable def enD : Nat → List D → List D
  | _, [] => []
  | i, d :: r => .tup [.int (i : Int), d] :: enD (i + 1) r
theorem enD_length : ∀ {i : Nat} {ds : List D}, (enD i ds).length = ds.length
  | _, [] => rfl
  | _, _ :: r => by show (enD _ r).length + 1 = r.length + 1; rw [enD_length]
theorem enD_get : ∀ {j i : Nat} {ds : List D} {d : D}, ds[i]? = some d → (enD j ds)[i]? = some (.tup [.int ((j + i : Nat) : Int), d])
  | j, 0, d :: r, _, h => by cases h; rfl
  | j, i + 1, d :: r, e, h => by
    have := enD_get (j := j + 1) (i := i) (ds := r) (d := e) (by simpa using h)
    show (enD (j + 1) r)[i]? = _
    rw [this, show j + 1 + i = j + (i + 1) by omega]
  | _, _, [], _, h => by simp at h
theorem itrel_enum {K : PySem.W.Frag} {H0 : Hp} {a : Addr} {ds : List D} : ItRel K H0 ⟨enD 0 ds, fun G => seqOf (G a) = some ds⟩ (Ite K a) where
  go := fun i G H l c ok hi => by
    obtain ⟨xs, s, r⟩ := sql_of c ok
    rw [enD_length] at hi
    exact ⟨xs, xs[i]'(by rw [← r.length]; exact hi), s, List.getElem?_eq_getElem _⟩
  stop := fun i G H l c ok hi => by
    obtain ⟨xs, s, r⟩ := sql_of c ok
    rw [enD_length] at hi
    exact ⟨xs, s, by rw [← r.length]; exact hi⟩
  yld := fun i G H x H' l c ok hi y => by
    obtain ⟨p, v, rfl, hp, rfl, y⟩ := y
    obtain ⟨xs, s, r⟩ := sql_of c ok
    obtain ⟨d, hd, rd⟩ := r.at_ (y xs s)
    refine ⟨c.side hp, Le.fresh hp, .tup [.int (i : Int), d], by rw [enD_get hd, Nat.zero_add], ?_⟩
    rw [RelD]
    exact ⟨p, _, rfl, SqT.of upd_same, .cons RelD.intI (.cons (RelD.le (Le.fresh hp) rd) .nil)⟩
noncomputable def wEnum (t : TA3) : TI3 := fun σ G r => t σ G fun ds G1 => match ds with
  | [.ref a] => (match seqOf (G1 a) with | some ds => r ⟨enD 0 ds, fun G => seqOf (G a) = some ds⟩ G1 | none => False)
  | _ => False
theorem low_wEnum {K : PySem.W.Frag} {t : TA3} {σ : L2.St} {H : Hp} {R : It → Hp → Prop} (h : lowI K (wEnum t) σ H R) : iEnum K (lowA K t) σ H R := by
  obtain ⟨σd, G, q, rs, c, t, f⟩ := h
  refine ⟨σd, G, _, rs, c, t, fun ds G1 vs H1 r1 c1 l1 t1 => ?_⟩
  split at t1
  · rename_i a
    split at t1
    · rename_i ds e
      obtain ⟨v, rfl, rv⟩ := r1.one
      cases rv.ref_inv
      obtain ⟨xs, s1, q1⟩ := sql_of c1 e
      exact ⟨a, rfl, ⟨xs, s1⟩, f _ _ _ _ itrel_enum c1 l1 t1⟩
    · exact t1.elim
  · exact t1.elim
theorem i_enumerate {X : Cx} {elts : List Expr} {x1} {tpos : Pos} {a : Expr} {ts : TA3} {p pos : Pos} (hg : Gl X "enumerate") (hm : X.mg "enumerate" = none) (ha : A3 X [a] ts) (hs : starEach [a] X.env = [(false, eval a X.env)] := by rfl) :
    I3 X (.Tuple elts x1 tpos) (.Call (.Name "enumerate" p) [a] [] pos) (wEnum ts) := weakI (pi_enum hg hm ha hs) fun _ _ _ => low_wEnum
end L3

namespace L2
open PySem PySem.Spec PyProof.Rows
/-- reversed of the list at a, of n items -/
noncomputable def Itv (K : PySem.W.Frag) (a : Addr) (n : Nat) : It :=
  ⟨fun i H => i < n ∧ ∃ xs, SqL K H a xs ∧ xs.length = n, fun i H x H' => H' = H ∧ ∀ xs, SqL K H a xs → xs[n - 1 - i]? = some x, fun i _ => n ≤ i⟩
theorem turn_rev {P : Program} {w : World} {K : PySem.W.Frag} {tg : Expr} (a it : Addr) (n : Nat) : Turn P w K tg (Itv K a n) [it] it (fun i h => i ≤ n ∧ h.IsRevIter it a ((n : Int) - 1 - (i : Nat))) where
  mem := by simp
  obj := fun i h st b hb => by
    have e : b = it := by simpa using hb
    subst e
    obtain ⟨o, e, c, d⟩ := st.2
    exact ⟨o, e, fun v z => by rw [d] at z; cases z⟩
  keep := fun i h h' st k => ⟨st.1, st.2.at fun o e => k it (by simp) o e⟩
  item := by
    intro X hP hw hK hc i pins s σ H E I hf st hg
    subst hP hw hK
    obtain ⟨hi, xs, hq, hn⟩ := hg
    obtain ⟨its, rv, p, hz⟩ := I.list hq
    have hl := rv.length
    obtain ⟨f0, f1, f2, f3, f4, f5⟩ := hf it (by simp)
    have hx : xs[n - 1 - i]? = some (xs[n - 1 - i]'(by omega)) := List.getElem?_eq_getElem _
    obtain ⟨u, hu, ru⟩ := rv.get hx
    have e1 : (n : Int) - 1 - (i : Nat) = ((n - 1 - i : Nat) : Int) := by omega
    have st2 := st.2
    rw [e1] at st2
    refine wpAny_pyNext_rev_item st2 p.isList (x := u) (by simpa using hu) fun h' st' sb => ?_
    have I1 : Inv X pins σ H { s with heap := h' } := I.turned (t' := s.toks) (fun b o hb e => (sb.2 b hb).trans e) f0 f1 f3 f4 f5
    obtain ⟨o, e, c, d⟩ := id st'
    refine ⟨u, rfl, go_of (s := { s with heap := h' }) e c d (by decide) ⟨_, H, I1, ru, ⟨rfl, fun ys hy => by rw [I.list_inj hy hq]; exact hx⟩, ⟨by omega, ?_⟩, fun b hb => (hf b hb).1⟩⟩
    have e2 : (n : Int) - 1 - ((i + 1 : Nat) : Int) = ((n - 1 - i : Nat) : Int) - 1 := by omega
    rw [e2]
    exact st'
  done := by
    intro X hP hw hK hc i pins s σ H E I hf st hg
    subst hP hw hK
    have hg : n ≤ i := hg
    obtain ⟨f0, f1, f2, f3, f4, f5⟩ := hf it (by simp)
    have e1 : (n : Int) - 1 - (i : Nat) = -1 := by have := st.1; omega
    have st2 := st.2
    rw [e1] at st2
    exact wpAny_pyNext_rev_end (I.ok.hd hc) st2 fun h' eb => ⟨rfl, I.turned (t' := s.toks) (fun b o hb q => eb b o hb q) f0 f1 f3 f4 f5⟩
  self := fun _ _ _ _ _ st h => wpAny_pyIter_revIter st.2 h
noncomputable def iRev (K : PySem.W.Frag) (ta : TA) : TI := fun σ H R => ta σ H fun vs H1 => ∃ a xs, vs = [.ref a] ∧ SqL K H1 a xs ∧ R (Itv K a xs.length) H1
theorem pi_rev {X : Cx} {tg : Expr} {a : Expr} {ta : TA} {p pos : Pos} (hg : Gl X "reversed") (hm : X.mg "reversed" = none) (ha : PA X [a] ta) (hs : starEach [a] X.env = [(false, eval a X.env)] := by rfl) :
    PI X tg (.Call (.Name "reversed" p) [a] [] pos) (iRev X.K ta) := by
  intro pins s σ H R I h
  refine Call_ (ld_blt I hg hm boot_reversed (PyProof.Rows.callWith_type1 (thn (ha pos pins s σ H _ I h) fun us s1 ⟨vs, H1, I1, r1, q1⟩ => ?_) hs rfl))
  obtain ⟨l, xs, e, hq, q⟩ := q1
  subst e
  cases r1 with
  | cons r rr =>
    cases rr
    cases r
    obtain ⟨its, rv, pl, hz⟩ := I1.list hq
    have hl := rv.length
    refine call_reversed_list pl.isList ?_
    have st : (s1.heap.push (revObj l ((its.toArray.size : Int) - 1))).IsRevIter s1.heap.objs.size l ((its.toArray.size : Int) - 1) := ⟨_, Heap.get?_push_size _ rfl, rfl, rfl⟩
    have I2 : Inv X pins σ H1 { s1 with heap := s1.heap.push (revObj l ((its.toArray.size : Int) - 1)) } := I1.kept (t' := s1.toks) fun b o e => Heap.get?_push_of_some _ e
    refine wpAny_pyIter_revIter st ?_
    refine ⟨s1.heap.objs.size, [s1.heap.objs.size], _, _, H1, rfl, I2, turn_rev l _ xs.length, ⟨Nat.zero_le _, ?_⟩, fun b hb => ?_, q⟩
    · have e1 : (xs.length : Int) - 1 - ((0 : Nat) : Int) = (its.toArray.size : Int) - 1 := by simp; omega
      rw [e1]
      exact st
    · have e : b = s1.heap.objs.size := by simpa using hb
      subst e
      exact I1.fpOk (Nat.le_refl _) (I1.hok.fresh (Nat.le_refl _))
end L2
namespace L3
open PySem PySem.Spec PyProof.Rows L2
theorem itrel_rev {K : PySem.W.Frag} {H0 : Hp} {a : Addr} {ds : List D} {n : Nat} (hn : ds.length = n) : ItRel K H0 ⟨ds.reverse, fun G => seqOf (G a) = some ds⟩ (Itv K a n) where
  go := fun i G H l c ok hi => by
    obtain ⟨xs, s, r⟩ := sql_of c ok
    rw [List.length_reverse] at hi
    exact ⟨by omega, xs, s, by rw [← r.length]; exact hn⟩
  stop := fun i G H l c ok hi => by
    rw [List.length_reverse] at hi
    show n ≤ i
    omega
  yld := fun i G H x H' l c ok hi y => by
    obtain ⟨rfl, y⟩ := y
    obtain ⟨xs, s, r⟩ := sql_of c ok
    rw [List.length_reverse] at hi
    obtain ⟨d, hd, rd⟩ := r.at_ (y xs s)
    refine ⟨c, Le.refl _, d, ?_, rd⟩
    rw [List.getElem?_reverse hi, hn]
    exact hd
noncomputable def wRev (t : TA3) : TI3 := fun σ G r => t σ G fun ds G1 => match ds with
  | [.ref a] => (match seqOf (G1 a) with | some ds => r ⟨ds.reverse, fun G => seqOf (G a) = some ds⟩ G1 | none => False)
  | _ => False
theorem low_wRev {K : PySem.W.Frag} {t : TA3} {σ : L2.St} {H : Hp} {R : It → Hp → Prop} (h : lowI K (wRev t) σ H R) : iRev K (lowA K t) σ H R := by
  obtain ⟨σd, G, q, rs, c, t, f⟩ := h
  refine ⟨σd, G, _, rs, c, t, fun ds G1 vs H1 r1 c1 l1 t1 => ?_⟩
  split at t1
  · rename_i a
    split at t1
    · rename_i ds e
      obtain ⟨v, rfl, rv⟩ := r1.one
      cases rv.ref_inv
      obtain ⟨xs, s1, q1⟩ := sql_of c1 e
      exact ⟨a, xs, rfl, s1, f _ _ _ _ (itrel_rev q1.length) c1 l1 t1⟩
    · exact t1.elim
  · exact t1.elim
theorem i_reversed {X : Cx} {tg : Expr} {a : Expr} {ts : TA3} {p pos : Pos} (hg : Gl X "reversed") (hm : X.mg "reversed" = none) (ha : A3 X [a] ts) (hs : starEach [a] X.env = [(false, eval a X.env)] := by rfl) :
    I3 X tg (.Call (.Name "reversed" p) [a] [] pos) (wRev ts) := weakI (pi_rev hg hm ha hs) fun _ _ _ => low_wRev
end L3

namespace L2
open PySem PySem.Spec PyProof.Rows
section
variable {X : Cx}
/-- isinstance of a tuple -/
theorem call_isinstT : CallR X (.builtin "isinstance") (fun xs H Q => ∃ a ys T, xs = [.ref a, .ty T] ∧ SqT X.K H a ys ∧ (T = "int" ∨ T = "str" ∨ T = "bool" ∨ T = "list" ∨ T = "tuple" ∨ T = "dict") ∧ Q (.bl (subK "tuple" T)) H) := by
  intro pins s σ H xs us Q I r h
  obtain ⟨a, ys, T, rfl, hq, hT, q⟩ := h
  obtain ⟨u, w, rfl, rx, rt⟩ := vals2 r
  cases rt
  cases rx
  obtain ⟨its, rv, p, hz⟩ := I.tuple hq
  obtain ⟨o, h1, h2, _⟩ := p
  exact PySem.W.kia_one PySem.W.kitx_tuple I.kIn ⟨o, h1, h2⟩ (kit_sub (by simp) hT) (fun z => nomatch z) fun tk => ⟨.bl (subK "tuple" T), H, I.tok tk, rfl, q⟩
end
end L2
namespace L3
open PySem PySem.Spec PyProof.Rows L2
section
variable {X : Cx}
noncomputable def xIsinstT : C3 := fun ds G q => match ds with
  | [.tup _, .ty T] => (T = "int" ∨ T = "str" ∨ T = "bool" ∨ T = "list" ∨ T = "tuple" ∨ T = "dict") ∧ q (.bl (subK "tuple" T)) G
  | _ => False
theorem x_isinstT : Call3 X (.builtin "isinstance") xIsinstT := weakCall call_isinstT fun xs H Q ⟨ds, G, q, r, c, t, f⟩ => by
  unfold xIsinstT at t
  split at t
  · rename_i d T
    obtain ⟨v, u, rfl, r1, r2⟩ := r.two
    rw [RelD] at r2
    subst r2
    obtain ⟨a, ys, rfl, s1, q1⟩ := r1.tup_inv
    exact ⟨a, ys, T, rfl, s1, t.1, f _ _ _ _ RelD.blI c (Le.refl H) t.2⟩
  · exact t.elim
end
end L3

namespace Law
open PySem L2 L3 Rw
set_option maxHeartbeats 4000000
theorem rng_ok {m : Nat} (h : m ≤ 100000) : -(2 ^ 62) ≤ (m : Int) ∧ (m : Int) < 2 ^ 62 := ⟨by omega, by omega⟩
/-- the draws' state stands at st -/
structure StAt (G : Gp) (st : Addr) : Prop where
  ex : ∃ (a : Addr) (ns : List Int) (k r : Int), G st = some (.lst [.ref a, .int k, .int r]) ∧ G a = some (.fro (ns.map .int)) ∧ 0 ≤ k ∧ 0 ≤ r ∧ a ≠ st ∧ ns.length ≤ 63
structure Adv (st : Addr) (G G' : Gp) : Prop where
  at_ : StAt G' st
  kp : ∀ b o, b ≠ st → G b = some o → G' b = some o
/-- only the list at a is changed, to bs -/
structure Upd1 (a : Addr) (bs : List Int) (G G' : Gp) : Prop where
  at_ : G' a = some (.lst (bs.map .int))
  kp : ∀ b, b ≠ a → G' b = G b
noncomputable def flds (ra ha : Addr) (s : Nat) : List (Str × D) := [("rows", .ref ra), ("held", .ref ha), ("spot", .int (s : Int))]
/-- a ride stands at p -/
structure RideAt (C : Addr) (G : Gp) (p ra ha : Addr) (rs : List Row) (bs : List Int) (s : Nat) : Prop where
  ob : G p = some (.ins C (flds ra ha s))
  ro : G ra = some (.lst (rs.map Row.d))
  he : G ha = some (.lst (bs.map .int))
  ne : ra ≠ ha
structure Cde (sz : Nat) (rs : List Row) (bs : List Int) (s : Nat) : Prop where
  bo : BsOk sz bs
  ro : ∀ r ∈ rs, r.ok sz
  le : s ≤ rs.length
theorem RideAt.pr {C : Addr} {G : Gp} {p ra ha : Addr} {rs : List Row} {bs : List Int} {s : Nat} (h : RideAt C G p ra ha rs bs s) : p ≠ ra := by
  intro e; have := h.ob; rw [e, h.ro] at this; cases this
theorem StAt.new {G : Gp} {st p : Addr} {o : DO} (h : StAt G st) (hp : G p = none) : StAt (gup G p o) st := by
  obtain ⟨a, ns, k, r, h1, h2, h3⟩ := h.ex
  exact ⟨a, ns, k, r, by rw [gup_ne (gne h1 hp)]; exact h1, by rw [gup_ne (gne h2 hp)]; exact h2, h3⟩
theorem StAt.ne {G : Gp} {st p : Addr} (h : StAt G st) (hp : G p = none) : p ≠ st := by
  obtain ⟨a, ns, k, r, h1, h2, h3⟩ := h.ex
  exact Ne.symm (gne h1 hp)
theorem StAt.set {G : Gp} {st p : Addr} {xs ys : List D} (h : StAt G st) (hp : G p = some (.lst xs)) (hne : p ≠ st) : StAt (gup G p (.lst ys)) st := by
  obtain ⟨a, ns, k, r, h1, h2, h3⟩ := h.ex
  have : a ≠ p := by intro e; rw [e, hp] at h2; cases h2
  exact ⟨a, ns, k, r, by rw [gup_ne (Ne.symm hne)]; exact h1, by rw [gup_ne this]; exact h2, h3⟩
theorem Adv.refl {G : Gp} {st : Addr} (h : StAt G st) : Adv st G G := ⟨h, fun _ _ _ e => e⟩
theorem Adv.trans {st : Addr} {G G1 G2 : Gp} (a : Adv st G G1) (b : Adv st G1 G2) : Adv st G G2 := ⟨b.at_, fun c o hc e => b.kp c o hc (a.kp c o hc e)⟩
theorem Adv.new {st p : Addr} {G G1 : Gp} {o : DO} (a : Adv st G G1) (hp : G1 p = none) : Adv st G (gup G1 p o) := ⟨a.at_.new hp, fun c u hc e => by rw [gup_ne (gne (a.kp c u hc e) hp)]; exact a.kp c u hc e⟩
/-- a list that was not there ahead is changed -/
theorem Adv.own {st p : Addr} {G G1 : Gp} {xs ys : List D} (a : Adv st G G1) (hp : G p = none) (h1 : G1 p = some (.lst xs)) (hne : p ≠ st) : Adv st G (gup G1 p (.lst ys)) :=
  ⟨a.at_.set h1 hne, fun c u hc e => by rw [gup_ne (gne e hp)]; exact a.kp c u hc e⟩
theorem Adv.none {st p : Addr} {G G1 : Gp} (a : Adv st G G1) (hp : G1 p = none) (hne : p ≠ st) : G p = none := by
  cases e : G p with
  | none => rfl
  | some o => rw [a.kp p o hne e] at hp; cases hp
theorem RideAt.grow {C : Addr} {G G' : Gp} {p ra ha : Addr} {rs : List Row} {bs : List Int} {s : Nat} (h : RideAt C G p ra ha rs bs s) (g : Grow G G') : RideAt C G' p ra ha rs bs s :=
  ⟨g.kp _ _ h.ob, g.kp _ _ h.ro, g.kp _ _ h.he, h.ne⟩
/-- what stands stays, but the ride and its boxes -/
structure Kept (p ha : Addr) (G G' : Gp) : Prop where
  kp : ∀ b o, b ≠ p → b ≠ ha → G b = some o → G' b = some o
theorem Kept.refl {p ha : Addr} {G : Gp} : Kept p ha G G := ⟨fun _ _ _ _ h => h⟩
theorem Kept.trans {p ha : Addr} {G G1 G2 : Gp} (a : Kept p ha G G1) (b : Kept p ha G1 G2) : Kept p ha G G2 := ⟨fun c o h1 h2 h => b.kp c o h1 h2 (a.kp c o h1 h2 h)⟩
theorem Kept.grow {p ha : Addr} {G G1 G2 : Gp} (a : Kept p ha G G1) (b : Grow G1 G2) : Kept p ha G G2 := ⟨fun c o h1 h2 h => b.kp c o (a.kp c o h1 h2 h)⟩
theorem Kept.none {p ha q : Addr} {G G1 : Gp} (a : Kept p ha G G1) (h1 : q ≠ p) (h2 : q ≠ ha) (h : G1 q = none) : G q = none := by
  cases e : G q with
  | none => rfl
  | some o => rw [a.kp q o h1 h2 e] at h; cases h
structure AllIn (C : Addr) (G : Gp) (p ra ha rr a : Addr) (rs : List Row) (bs : List Int) (s sz : Nat) : Prop where
  A : RideAt C G p ra ha rs bs s
  c : Cde sz rs bs s
  pl : ∀ r ∈ rs, r.plain = true
  le : sz ≤ 1000
  r : G rr = some (.lst (rs.map Row.d))
  b : G a = some (.lst (bs.map .int))
  rh : rr ≠ ha
  ah : a ≠ ha
structure AllOut (C : Addr) (G G' : Gp) (p ra ha a q : Addr) (rs : List Row) (bs : List Int) (s : Nat) : Prop where
  A : RideAt C G' p ra ha rs bs s
  b : G' q = some (.lst (bs.map .int))
  k : Kept p ha G G'
  q : q = a ∨ G q = none
end Law
namespace Rw
open PySem L2 L3
theorem mapM_all {α β : Type} {f : α → Option β} : ∀ {xs : List α}, (∀ x ∈ xs, ∃ y, f x = some y) → ∃ ys, xs.mapM f = some ys
  | [], _ => ⟨[], rfl⟩
  | x :: xs, h => by
    obtain ⟨y, hy⟩ := h x List.mem_cons_self
    obtain ⟨ys, hys⟩ := mapM_all (xs := xs) fun z hz => h z (List.mem_cons_of_mem _ hz)
    exact ⟨y :: ys, by rw [List.mapM_cons, hy, hys]; rfl⟩
theorem snap_tup {G : Gp} {n : Nat} {ds : List D} (h : ∀ d ∈ ds, ∃ s, snap G n d = some s) : ∃ s, snap G (n + 1) (.tup ds) = some s := by
  obtain ⟨ys, e⟩ := mapM_all h
  exact ⟨.tup ys, by show (ds.mapM (snap G n)).map Sn.tup = _; rw [e]; rfl⟩
theorem snap_ref {G : Gp} {n : Nat} {a b : Addr} (h : seqOf (G a) = seqOf (G b)) : snap G n (.ref a) = snap G n (.ref b) := by
  cases n with
  | zero => rfl
  | succ n => show ((seqOf (G a)).bind _) = ((seqOf (G b)).bind _); rw [h]
end Rw

namespace Law
open PySem L2 L3 Rw
set_option maxHeartbeats 4000000
/-- each go has its come, each come its go -/
structure Pairs (rs : List Row) : Prop where
  go : ∀ (j x : Nat) (n : Int) (k : Nat), rs[j]? = some (Row.go x n k) → rs[k]? = some (.come x n j)
  co : ∀ (j x : Nat) (n : Int) (k : Nat), rs[j]? = some (Row.come x n k) → rs[k]? = some (.go x n j)
theorem lt_of {α : Type} {xs : List α} {i : Nat} {x : α} (h : xs[i]? = some x) : i < xs.length := (List.getElem?_eq_some_iff.mp h).1
/-! rows that are still to be laid -/
noncomputable def od : Option Row → D
  | none => .non
  | some r => r.d
structure PairsO (os : List (Option Row)) : Prop where
  go : ∀ (j x : Nat) (n : Int) (k : Nat), os[j]? = some (some (Row.go x n k)) → os[k]? = some (some (.come x n j))
  co : ∀ (j x : Nat) (n : Int) (k : Nat), os[j]? = some (some (Row.come x n k)) → os[k]? = some (some (.go x n j))
theorem PairsO.plain {os : List (Option Row)} {i : Nat} {r : Row} (h : PairsO os) (hi : os[i]? = some none) (hr : r.plain = true) : PairsO (os.set i (some r)) := by
  have hl := lt_of hi
  refine ⟨fun j x n k e => ?_, fun j x n k e => ?_⟩
  · rw [List.getElem?_set] at e ⊢
    by_cases hj : i = j
    · subst hj; rw [if_pos rfl, if_pos hl] at e; cases e; cases hr
    · rw [if_neg hj] at e
      have q := h.go j x n k e
      by_cases hk : i = k
      · subst hk; rw [hi] at q; cases q
      · rw [if_neg hk]; exact q
  · rw [List.getElem?_set] at e ⊢
    by_cases hj : i = j
    · subst hj; rw [if_pos rfl, if_pos hl] at e; cases e; cases hr
    · rw [if_neg hj] at e
      have q := h.co j x n k e
      by_cases hk : i = k
      · subst hk; rw [hi] at q; cases q
      · rw [if_neg hk]; exact q
theorem PairsO.empty {m : Nat} : PairsO (List.replicate m none) := by
  refine ⟨fun j x n k e => ?_, fun j x n k e => ?_⟩ <;> (rw [List.getElem?_replicate] at e; split at e <;> cases e)
theorem PairsO.pairs {rs : List Row} (h : PairsO (rs.map some)) : Pairs rs := by
  have e : ∀ {j : Nat} {r : Row}, rs[j]? = some r ↔ (rs.map some)[j]? = some (some r) := fun {j r} => by
    rw [List.getElem?_map]
    cases rs[j]? <;> simp
  exact ⟨fun j x n k q => e.mpr (h.go j x n k (e.mp q)), fun j x n k q => e.mpr (h.co j x n k (e.mp q))⟩
end Law

namespace Law
open PySem L2 L3 Rw
/-- a place and its boxes, laid at an address -/
structure Ent where
  s : Nat
  q : Addr
  bs : List Int
noncomputable def Ent.d (e : Ent) : D := .tup [.int (e.s : Int), .ref e.q]
theorem atI_last {α : Type} {xs : List α} {x : α} : atI (xs ++ [x]) (-1) = some x := by
  unfold atI ixN
  rw [if_neg (by decide), List.length_append, List.length_singleton, if_pos (by omega), Option.bind_some]
  have : ((-1 : Int) + ((xs.length + 1 : Nat) : Int)).toNat = xs.length := by omega
  rw [this, List.getElem?_append_right (Nat.le_refl _), Nat.sub_self]
  rfl
theorem StAt.grow {G G' : Gp} {st : Addr} (h : StAt G st) (g : Grow G G') : StAt G' st := by
  obtain ⟨a, ns, k, r, h1, h2, h3⟩ := h.ex
  exact ⟨a, ns, k, r, g.kp _ _ h1, g.kp _ _ h2, h3⟩
end Law

namespace Law
open PySem L2 L3 Rw
end Law
namespace Law
open PySem L2 L3 Rw
end Law

namespace L3
open PySem PySem.Spec PyProof.Rows L2
theorem intsOf_map : ∀ ks : List Int, intsOf (ks.map D.int) = some ks
  | [] => rfl
  | k :: ks => by show (intsOf (ks.map D.int)).map (k :: ·) = _; rw [intsOf_map ks]; rfl
end L3
namespace Rw
open PySem L2 L3
/-- what a row reads, its bits, its numbers -/
noncomputable def rb : Row → List Int
  | .add _ (.box y) => [(y : Int)]
  | .take _ (.box y) => [(y : Int)]
  | .turn _ _ cs => cs.map fun c => (c.1 : Int)
  | .swap _ y => [(y : Int)]
  | _ => []
noncomputable def Row.x : Row → Nat
  | .add x _ => x
  | .take x _ => x
  | .turn x _ _ => x
  | .swap x _ => x
  | .go x _ _ => x
  | .come x _ _ => x
end Rw
namespace Law
open PySem L2 L3 Rw
/-- where a ride came from, and how -/
structure Ent2 where
  fw : Bool
  s : Nat
  q : Addr
  bs : List Int
noncomputable def Ent2.d (e : Ent2) : D := .tup [.bl e.fw, .int (e.s : Int), .ref e.q]
end Law


namespace L2
open PySem PySem.Spec PyProof.Rows
section
variable {X : Cx}
theorem call_max1 (hc : X.calm = true) : CallR X (.builtin "max") (fun xs H Q => ∃ (p : Addr) (ns : List Int), xs = [.ref p] ∧ SqL X.K H p (ns.map V.int) ∧ 0 < ns.length ∧ ∀ M : Int, M ∈ ns → (∀ a ∈ ns, a ≤ M) → Q (.int M) H) := by
  intro pins s σ H xs us Q I r h
  obtain ⟨p, ns, rfl, hq, hne, q⟩ := h
  obtain ⟨u, rfl, rx⟩ := vals1 r
  cases rx
  obtain ⟨its, r', pl, hz⟩ := I.list hq
  have hi : IntsAre its ns := intsAre_of r'
  obtain ⟨ys, hx⟩ := hi.allInts.items
  have hl' : s.heap.IsList p (intItems ys) := hx ▸ pl.isList
  have e1 : ns = ys.toList.map (·.1) := by
    rw [← nums_intItems, ← hx]
    exact (show numsOf its.toArray.toList = ns from hi.numsOf).symm
  have hsz : 0 < ys.size := by
    have h3 := hne; rw [e1, List.length_map, Array.length_toList] at h3; exact h3
  refine max_intList (I.ok.hd hc) hl' hsz fun v h' tk hv hk => ?_
  obtain ⟨t, rfl⟩ := intItems_at hv
  obtain ⟨h1, h2⟩ := argBest_gt (numAt ys) (ys.size - 1)
  refine ⟨.int _, H, I.kept hk, ⟨_, rfl⟩, q _ ?_ fun a ha => ?_⟩
  · rw [e1, numAt_eq]; exact getD_mem (by rw [List.length_map, Array.length_toList]; omega)
  · rw [e1] at ha
    obtain ⟨j, hj, rfl⟩ := mem_getD ha
    rw [List.length_map, Array.length_toList] at hj
    rw [← numAt_eq]; exact h2 j (by omega)
theorem call_min1 (hc : X.calm = true) : CallR X (.builtin "min") (fun xs H Q => ∃ (p : Addr) (ns : List Int), xs = [.ref p] ∧ SqL X.K H p (ns.map V.int) ∧ 0 < ns.length ∧ ∀ M : Int, M ∈ ns → (∀ a ∈ ns, M ≤ a) → Q (.int M) H) := by
  intro pins s σ H xs us Q I r h
  obtain ⟨p, ns, rfl, hq, hne, q⟩ := h
  obtain ⟨u, rfl, rx⟩ := vals1 r
  cases rx
  obtain ⟨its, r', pl, hz⟩ := I.list hq
  have hi : IntsAre its ns := intsAre_of r'
  obtain ⟨ys, hx⟩ := hi.allInts.items
  have hl' : s.heap.IsList p (intItems ys) := hx ▸ pl.isList
  have e1 : ns = ys.toList.map (·.1) := by
    rw [← nums_intItems, ← hx]
    exact (show numsOf its.toArray.toList = ns from hi.numsOf).symm
  have hsz : 0 < ys.size := by
    have h3 := hne; rw [e1, List.length_map, Array.length_toList] at h3; exact h3
  refine min_intList (I.ok.hd hc) hl' hsz fun v h' tk hv hk => ?_
  obtain ⟨t, rfl⟩ := intItems_at hv
  obtain ⟨h1, h2⟩ := argBest_lt (numAt ys) (ys.size - 1)
  refine ⟨.int _, H, I.kept hk, ⟨_, rfl⟩, q _ ?_ fun a ha => ?_⟩
  · rw [e1, numAt_eq]; exact getD_mem (by rw [List.length_map, Array.length_toList]; omega)
  · rw [e1] at ha
    obtain ⟨j, hj, rfl⟩ := mem_getD ha
    rw [List.length_map, Array.length_toList] at hj
    rw [← numAt_eq]; exact h2 j (by omega)
end
end L2
namespace L3
open PySem PySem.Spec PyProof.Rows L2
section
variable {X : Cx}
/-- max(xs), a list of ints, one at least -/
noncomputable def xMax1 : C3 := fun ds G q => match ds with
  | [.ref a] => (match seqOf (G a) with | some xs => (match allInt xs with | some bs => 0 < bs.length ∧ ∀ M : Int, M ∈ bs → (∀ z ∈ bs, z ≤ M) → q (.int M) G | none => False) | none => False)
  | _ => False
noncomputable def xMin1 : C3 := fun ds G q => match ds with
  | [.ref a] => (match seqOf (G a) with | some xs => (match allInt xs with | some bs => 0 < bs.length ∧ ∀ M : Int, M ∈ bs → (∀ z ∈ bs, M ≤ z) → q (.int M) G | none => False) | none => False)
  | _ => False
theorem x_min1 (hc : X.calm = true := by rfl) : Call3 X (.builtin "min") xMin1 := weakCall (call_min1 hc) fun xs H Q ⟨ds, G, q, r, c, t, f⟩ => by
  unfold xMin1 at t
  split at t
  · obtain ⟨v, rfl, r1⟩ := r.one
    cases r1.ref_inv
    split at t
    · rename_i ds e
      obtain ⟨ys, s1, q1⟩ := sql_of c e
      split at t
      · rename_i bs eb
        have := allInt_rel eb q1
        subst this
        exact ⟨_, bs, rfl, s1, t.1, fun M h1 h2 => f _ _ _ _ RelD.intI c (Le.refl H) (t.2 M h1 h2)⟩
      · exact t.elim
    · exact t.elim
  · exact t.elim
theorem allInt_map : ∀ ks : List Int, allInt (ks.map D.int) = some ks
  | [] => rfl
  | k :: ks => by show (allInt (ks.map D.int)).map (k :: ·) = _; rw [allInt_map ks]; rfl
end
end L3




namespace L2
open PySem PySem.Spec PyProof.Rows
end L2
namespace L3
open PySem PySem.Spec PyProof.Rows L2
end L3

namespace L2
open PySem PySem.Spec PyProof.Rows
end L2
namespace L3
open PySem PySem.Spec PyProof.Rows L2
end L3

namespace L3
open PySem PySem.Spec PyProof.Rows L2 Rw
/-- the words of a move -/
noncomputable def pD (p : Str × Int) : D := .tup [.str p.1, .int p.2]
/-- the source: the cells still to draw from, a rest, a number -/
noncomputable def Src (G : Gp) (s a : Addr) : Prop := ∃ (ns : List Int) (x y : Int), G s = some (.lst [.ref a, .int x, .int y]) ∧ G a = some (.lst (ns.map .int)) ∧ 0 ≤ x ∧ s ≠ a
structure Ady (s a : Addr) (G G' : Gp) : Prop where
  at_ : Src G' s a
  kp : ∀ c o, c ≠ s → c ≠ a → G c = some o → G' c = some o
theorem Src.ne {G : Gp} {s a p : Addr} (h : Src G s a) (hp : G p = none) : p ≠ s ∧ p ≠ a := by
  obtain ⟨ns, x, y, h1, h2, _⟩ := h
  exact ⟨fun e => (by rw [e, h1] at hp; cases hp), fun e => (by rw [e, h2] at hp; cases hp)⟩
theorem Src.put {G : Gp} {s a p : Addr} {o : DO} (h : Src G s a) (hs : p ≠ s) (ha : p ≠ a) : Src (gup G p o) s a := by
  obtain ⟨ns, x, y, h1, h2, h3, h4⟩ := h
  exact ⟨ns, x, y, by rw [gup_ne (Ne.symm hs)]; exact h1, by rw [gup_ne (Ne.symm ha)]; exact h2, h3, h4⟩
theorem Src.grow {G G' : Gp} {s a : Addr} (h : Src G s a) (g : Grow G G') : Src G' s a := by
  obtain ⟨ns, x, y, h1, h2, h3⟩ := h
  exact ⟨ns, x, y, g.kp _ _ h1, g.kp _ _ h2, h3⟩
theorem Ady.trans {s a : Addr} {G G1 G2 : Gp} (h : Ady s a G G1) (k : Ady s a G1 G2) : Ady s a G G2 := ⟨k.at_, fun c o h1 h2 e => k.kp c o h1 h2 (h.kp c o h1 h2 e)⟩
theorem Ady.refl {s a : Addr} {G : Gp} (h : Src G s a) : Ady s a G G := ⟨h, fun _ _ _ _ e => e⟩
theorem Ady.new {s a p : Addr} {G G1 : Gp} {o : DO} (h : Ady s a G G1) (hp : G1 p = none) : Ady s a G (gup G1 p o) :=
  ⟨h.at_.put (h.at_.ne hp).1 (h.at_.ne hp).2, fun c u h1 h2 e => by rw [gup_ne (gne (h.kp c u h1 h2 e) hp)]; exact h.kp c u h1 h2 e⟩
end L3

namespace L2
open PySem PySem.Spec PyProof.Rows
noncomputable abbrev IsZipO (h : Heap) (z TI TO T : Addr) (f : Bool) : Prop := h.get? z = some { cls := .type "zip", data := .fields #[rawInt (T : Int), .bool f, .bool false, .ref TI, .ref TO] }
theorem far {z t : Addr} {n : Nat} (a : z < n) (b : n ≤ t) : t ≠ z := Nat.ne_of_gt (Nat.lt_of_lt_of_le a b)
/-- zip of two lists, i items drawn, the tuple of the last one kept -/
structure LzSt (l1 l2 z TI TO i1 i2 S : Addr) (xs ys : Array Value) (i : Nat) (h : Heap) : Prop where
  zz : IsZip h z TI TO .none ∨ ∃ T f oT, IsZipO h z TI TO T f ∧ h.get? T = some oT ∧ T ≠ z ∧ T ≠ TO ∧ T ≠ i1 ∧ T ≠ i2 ∧ T ≠ S
  ti : IsPair h TI (.ref i1) (.ref i2)
  to : ∃ u v, IsPair h TO u v
  h1 : h.IsListIter i1 l1 i
  h2 : h.IsListIter i2 l2 i
  m1 : h.IsList l1 xs
  m2 : h.IsList l2 ys
/-- the tuples laid so far -/
structure LzTs (n0 : Nat) (xs ys : Array Value) (h : Heap) (ts : List Addr) : Prop where
  nd : ts.Nodup
  at_ : ∀ (j : Nat) (t : Addr), ts[j]? = some t → n0 ≤ t ∧ ∃ x y, xs[j]? = some x ∧ ys[j]? = some y ∧ IsPair h t x y
end L2

namespace L3
open PySem PySem.Spec PyProof.Rows L2
end L3

namespace L3
open PySem PySem.Spec PyProof.Rows L2
section
variable {X : Cx} {o : Expr} {to : TE3} {apos cpos : Pos}
end
end L3

namespace L3
open PySem PySem.Spec PyProof.Rows L2 Rw
noncomputable abbrev Mv := Bool × Nat
noncomputable def mP (p : Mv) : Str × Int := (if p.1 then "lay" else "clear", (p.2 : Int))
noncomputable def mD (p : Mv) : D := pD (mP p)
noncomputable def nD (x : Nat) : D := .int (x : Int)
noncomputable def stb (k m : Nat) : Bool := m.testBit (k - 1)
noncomputable def xr (m k : Nat) : Nat := m ^^^ 2 ^ (k - 1)
noncomputable def hi (m : Nat) : Nat := if m = 0 then 0 else m.log2 + 1
theorem lt_hi (m : Nat) : m < 2 ^ hi m := by
  unfold hi
  by_cases h : m = 0
  · subst h; simp
  · rw [if_neg h]; exact Nat.lt_log2_self
/-- the moves are on marks that stand or not, as they should -/
noncomputable def okw : Nat → List Mv → Prop
  | _, [] => True
  | m, p :: r => (1 ≤ p.2 ∧ p.2 ≤ 900) ∧ p.1 = !stb p.2 m ∧ okw (xr m p.2) r
noncomputable def fin : Nat → List Mv → Nat
  | m, [] => m
  | m, p :: r => fin (xr m p.2) r
noncomputable def low : Nat → List Mv → Nat
  | m, [] => hi m
  | m, p :: r => min (low (xr m p.2) r) (hi m)
noncomputable def thw : Nat → List Mv → List Mv
  | _, [] => []
  | m, p :: r => if p.2 ≤ low (xr m p.2) r then p :: thw (xr m p.2) r else thw (xr m p.2) r
noncomputable def once (w : List Mv) : List Mv := thw 0 w
/-- the sets behind each move -/
noncomputable def sbh : Nat → List Mv → List Nat
  | _, [] => []
  | m, p :: r => xr m p.2 :: sbh (xr m p.2) r
theorem fin_app : ∀ {l r : List Mv} {m : Nat}, fin m (l ++ r) = fin (fin m l) r
  | [], _, _ => rfl
  | p :: l, r, m => by show fin (xr m p.2) (l ++ r) = _; rw [fin_app]; rfl
theorem thw_sub : ∀ {w : List Mv} {m : Nat}, (thw m w).Sublist w
  | [], _ => .slnil
  | p :: r, m => by
    rw [thw]
    split
    · exact thw_sub.cons₂ _
    · exact thw_sub.cons _
theorem mod_min {m l : Nat} : m % 2 ^ (min l (hi m)) = m % 2 ^ l := by
  rcases Nat.le_total l (hi m) with h | h
  · rw [Nat.min_eq_left h]
  · rw [Nat.min_eq_right h, Nat.mod_eq_of_lt (lt_hi m), Nat.mod_eq_of_lt (Nat.lt_of_lt_of_le (lt_hi m) (Nat.pow_le_pow_right (by decide) h))]
theorem xr_mod {m k l : Nat} (h1 : 1 ≤ k) (h : k ≤ l) : xr (m % 2 ^ l) k = xr m k % 2 ^ l := Nat.eq_of_testBit_eq fun j => by
  unfold xr
  rw [Nat.testBit_xor, Nat.testBit_mod_two_pow, Nat.testBit_mod_two_pow, Nat.testBit_xor, Nat.testBit_two_pow]
  by_cases e : k - 1 = j
  · have : j < l := by omega
    simp [e, this]
  · simp [e]
theorem xr_mod2 {m k l : Nat} (h : l < k) : m % 2 ^ l = xr m k % 2 ^ l := Nat.eq_of_testBit_eq fun j => by
  unfold xr
  rw [Nat.testBit_mod_two_pow, Nat.testBit_mod_two_pow, Nat.testBit_xor, Nat.testBit_two_pow]
  by_cases e : k - 1 = j
  · have : ¬ j < l := by omega
    simp [this]
  · simp [e]
theorem stb_mod {m k l : Nat} (h1 : 1 ≤ k) (h : k ≤ l) : stb k (m % 2 ^ l) = stb k m := by
  unfold stb
  rw [Nat.testBit_mod_two_pow]
  have : k - 1 < l := by omega
  simp [this]
theorem okw_thw : ∀ {w : List Mv} {m : Nat}, okw m w → okw (m % 2 ^ low m w) (thw m w)
  | [], _, _ => trivial
  | p :: r, m, ⟨h1, h2, h3⟩ => by
    have ih := okw_thw h3
    show okw (m % 2 ^ min (low (xr m p.2) r) (hi m)) (if p.2 ≤ low (xr m p.2) r then p :: thw (xr m p.2) r else thw (xr m p.2) r)
    rw [mod_min]
    split
    · rename_i hk
      refine ⟨h1, by rw [stb_mod h1.1 hk]; exact h2, ?_⟩
      rw [xr_mod h1.1 hk]
      exact ih
    · rename_i hk
      rw [xr_mod2 (by omega : low (xr m p.2) r < p.2)]
      exact ih
theorem okw_once {w : List Mv} (h : okw 0 w) : okw 0 (once w) := by
  have := okw_thw h
  rw [Nat.zero_mod] at this
  exact this
theorem once_len (w : List Mv) : (once w).length ≤ w.length := thw_sub.length_le
noncomputable def itn : Nat → List Mv → List Mv
  | 0, w => w
  | n + 1, w => once (itn n w)
theorem okw_itn {w : List Mv} (h : okw 0 w) : ∀ n, okw 0 (itn n w)
  | 0 => h
  | n + 1 => okw_once (okw_itn h n)
theorem itn_len {w : List Mv} : ∀ n, (itn n w).length ≤ w.length
  | 0 => Nat.le_refl _
  | n + 1 => Nat.le_trans (once_len _) (itn_len n)
/-- what a way thinned is -/
noncomputable def Fx (w x : List Mv) : Prop := (∃ n, x = itn n w) ∧ once x = x
theorem Fx.self {w x : List Mv} (h : Fx w x) : Fx x x := ⟨⟨0, rfl⟩, h.2⟩
theorem Fx.ok {w x : List Mv} (h : Fx w x) (hw : okw 0 w) : okw 0 x := by obtain ⟨⟨a, rfl⟩, _⟩ := h; exact okw_itn hw a
theorem Fx.len {w x : List Mv} (h : Fx w x) : x.length ≤ w.length := by obtain ⟨⟨a, rfl⟩, _⟩ := h; exact itn_len a
noncomputable def hD (x : Nat) : D := nD (hi x)
theorem allBl_map : ∀ bs : List Bool, allBl (bs.map D.bl) = some bs
  | [] => rfl
  | b :: bs => by rw [List.map_cons, allBl, allBl_map bs]; rfl
end L3

namespace L2
open PySem PySem.Spec PyProof.Rows
section
variable {X : Cx}
/-- sorted(xs), ints, fewer than 64 -/
theorem call_sorted : CallR X (.builtin "sorted") (fun xs H Q => ∃ (p : Addr) (ns : List Int), xs = [.ref p] ∧ SqL X.K H p (ns.map V.int) ∧ ns.length < 64 ∧ ∀ (l : Addr) (ns' : List Int), H l = none → ns'.Perm ns → ns'.Pairwise (· ≤ ·) → Q (.ref l) (upd H l (.lst (ns'.map V.int)))) := by
  intro pins s σ H xs us Q I r h
  obtain ⟨p, ns, rfl, hq, h64, q⟩ := h
  obtain ⟨u, rfl, rx⟩ := vals1 r
  cases rx
  obtain ⟨its, r', pl, hz⟩ := I.list hq
  have hi : IntsAre its ns := intsAre_of r'
  have hlen := r'.length
  rw [List.length_map] at hlen hz
  refine sorted_ints pl.isList hi (by omega) fun out ns' a1 a2 a3 => ?_
  obtain ⟨c, e⟩ := sortedAll_at s.heap its out
  refine ⟨.ref (s.heap.objs.size + 1), _, I.laid (t' := s.toks) (fun b u hb => sortedAll_old hb) (Nat.le_succ _) (show ObjOk X.prog X.w _ _ _ (.lst (ns'.map V.int)) from ⟨by rw [List.length_map, a2.length_eq]; exact hz, out.toList, c, vals_ints a1, e⟩), rfl, q _ _ (I.hok.fresh (Nat.le_succ _)) a2 a3⟩
end
end L2
namespace L3
open PySem PySem.Spec PyProof.Rows L2
section
variable {X : Cx} {K : PySem.W.Frag} {H : Hp}
@[reducible] def xSorted : C3 := fun ds G q => ∃ (a : Addr) (ns : List Int), ds = [.ref a] ∧ seqOf (G a) = some (ns.map .int) ∧ ns.length < 64 ∧ ∀ (p : Addr) (ns' : List Int), G p = none → ns'.Perm ns → ns'.Pairwise (· ≤ ·) → q (.ref p) (gup G p (.lst (ns'.map .int)))
theorem rel_intl {H : Hp} : ∀ ns : List Int, RelDs K H (ns.map D.int) (ns.map V.int)
  | [] => .nil
  | _ :: ns => .cons RelD.intI (rel_intl ns)
theorem rel_intl_inv {H : Hp} : ∀ {ns : List Int} {xs : List V}, RelDs K H (ns.map D.int) xs → xs = ns.map V.int
  | [], xs, r => r.inv_nil
  | n :: ns, xs, r => by
    obtain ⟨x, xs', rfl, h1, h2⟩ := r.inv_cons
    rw [h1.int_inv, rel_intl_inv h2]; rfl
theorem x_sorted : Call3 X (.builtin "sorted") xSorted := weakCall call_sorted <| by
  rintro xs H Q ⟨ds, G, q, r, c, t, f⟩
  obtain ⟨a, ns, rfl, hs, h64, t⟩ := t
  obtain ⟨v, rfl, r1⟩ := r.one
  cases r1.ref_inv
  obtain ⟨ys, s1, q1⟩ := sql_of c hs
  obtain rfl := rel_intl_inv q1
  exact ⟨_, ns, rfl, s1, h64, fun p ns' hp h1 h2 => f _ _ _ _ RelD.refI (c.lstNew hp (rel_intl ns')) (Le.fresh hp) (t p ns' (c.fresh hp) h1 h2)⟩
end
end L3

namespace L2
open PySem PySem.Spec PyProof.Rows
structure BlkOkC (X : Cx) (N' : List Str) (ix : List (Option Nat)) (scope : Scope) : Prop where
  kind : scope.kind = .function
  own : ∀ y ∈ scope.names, scope.names.lookup y.1 = some y.2
  frees : ∀ y ∈ scope.names, y.2 = .free → X.env.kindOf y.1 = some .cell ∨ X.env.kindOf y.1 = some .free
  len : ix.length = N'.length
  at_ : ∀ (i j : Nat) (x : Str), N'[i]? = some x → ix[i]? = some (some j) → X.N[j]? = some x ∧ scope.names.lookup x = some .free
section
variable {X : Cx} {pins : List (Addr × Obj)} {σ : L2.St} {H : Hp} {s : Shared}


variable {elt tg iter : Expr} {ifs : List Expr} {scope : Scope} {pos : Pos} {N' : List Str} {ix : List (Option Nat)} {wi : TI} {g : TG} {tc : TT} {te : TE}
end
end L2
namespace L3
open PySem PySem.Spec PyProof.Rows L2
end L3

namespace L3
open PySem PySem.Spec PyProof.Rows L2 Rw
/-- how many of the lowest marks stand -/
noncomputable def cnt : Nat → Nat → Nat
  | 0, _ => 0
  | n + 1, m => cnt n m + (if m.testBit n then 1 else 0)
theorem cnt_le : ∀ {n m : Nat}, cnt n m ≤ n
  | 0, _ => Nat.le_refl _
  | n + 1, m => by
    have := @cnt_le n m
    rw [cnt]
    split <;> omega
theorem cnt_mono : ∀ {n m m' : Nat}, (∀ i, m.testBit i = true → m'.testBit i = true) → cnt n m ≤ cnt n m'
  | 0, _, _, _ => Nat.le_refl _
  | n + 1, m, m', h => by
    have ih := cnt_mono (n := n) h
    rw [cnt, cnt]
    cases e : m.testBit n with
    | true => rw [h n e]; simp; omega
    | false => simp; omega
theorem cnt_mod {n m l : Nat} : cnt n (m % 2 ^ l) ≤ cnt n m := cnt_mono fun i h => by
  rw [Nat.testBit_mod_two_pow] at h
  simp at h
  exact h.2
theorem cnt_same : ∀ {n m m' : Nat}, (∀ i, i < n → m.testBit i = m'.testBit i) → cnt n m = cnt n m'
  | 0, _, _, _ => rfl
  | n + 1, m, m', h => by
    rw [cnt, cnt, cnt_same (n := n) fun i hi => h i (by omega), h n (by omega)]
theorem xr_bit {m k j : Nat} : (xr m k).testBit j = (m.testBit j ^^ decide (k - 1 = j)) := by
  unfold xr
  rw [Nat.testBit_xor, Nat.testBit_two_pow]
theorem cnt_up : ∀ {n m k : Nat}, 1 ≤ k → k ≤ n → stb k m = false → cnt n (xr m k) = cnt n m + 1
  | 0, _, _, h1, h2, _ => by omega
  | n + 1, m, k, h1, h2, h => by
    unfold stb at h
    by_cases e : k - 1 = n
    · subst e
      have e1 : cnt (k - 1) (xr m k) = cnt (k - 1) m := cnt_same fun i hi => by
        have : ¬ (k - 1 = i) := by omega
        rw [xr_bit]; simp [this]
      rw [cnt, cnt, e1, xr_bit, h]
      simp
    · have ih := cnt_up (n := n) (m := m) h1 (by omega) h
      rw [cnt, cnt, ih, xr_bit]
      simp [e]
      omega
theorem cnt_down : ∀ {n m k : Nat}, 1 ≤ k → k ≤ n → stb k m = true → cnt n (xr m k) + 1 = cnt n m
  | 0, _, _, h1, h2, _ => by omega
  | n + 1, m, k, h1, h2, h => by
    unfold stb at h
    by_cases e : k - 1 = n
    · subst e
      have e1 : cnt (k - 1) (xr m k) = cnt (k - 1) m := cnt_same fun i hi => by
        have : ¬ (k - 1 = i) := by omega
        rw [xr_bit]; simp [this]
      rw [cnt, cnt, e1, xr_bit, h]
      simp
    · have ih := cnt_down (n := n) (m := m) h1 (by omega) h
      rw [cnt, cnt, xr_bit]
      simp [e]
      omega
/-- a move that keeps the rules -/
noncomputable def lgl (n s m : Nat) (p : Mv) : Prop := (1 ≤ p.2 ∧ p.2 ≤ n) ∧ (p.2 = 1 ∨ m.testBit (p.2 - 2) = true) ∧ p.1 = (!stb p.2 m) ∧ (p.1 = true → cnt n m < s)
noncomputable def lgw (n s : Nat) : Nat → List Mv → Prop
  | _, [] => True
  | m, p :: r => lgl n s m p ∧ lgw n s (xr m p.2) r
theorem lgw_app {n s : Nat} : ∀ {l r : List Mv} {m : Nat}, lgw n s m (l ++ r) ↔ lgw n s m l ∧ lgw n s (fin m l) r
  | [], r, m => by show lgw n s m r ↔ True ∧ lgw n s m r; simp
  | p :: l, r, m => by
    show lgl n s m p ∧ lgw n s (xr m p.2) (l ++ r) ↔ (lgl n s m p ∧ lgw n s (xr m p.2) l) ∧ lgw n s (fin (xr m p.2) l) r
    rw [lgw_app, and_assoc]
theorem lgw_ok {n s : Nat} (hn : n ≤ 900) : ∀ {w : List Mv} {m : Nat}, lgw n s m w → okw m w
  | [], _, _ => trivial
  | p :: r, m, ⟨⟨h1, h2, h3, h4⟩, h5⟩ => ⟨⟨h1.1, by omega⟩, h3, lgw_ok hn h5⟩
theorem lgw_thw {n s : Nat} : ∀ {w : List Mv} {m : Nat}, lgw n s m w → lgw n s (m % 2 ^ low m w) (thw m w)
  | [], _, _ => trivial
  | p :: r, m, ⟨⟨h1, h2, h3, h4⟩, h5⟩ => by
    have ih := lgw_thw h5
    show lgw n s (m % 2 ^ min (low (xr m p.2) r) (hi m)) (if p.2 ≤ low (xr m p.2) r then p :: thw (xr m p.2) r else thw (xr m p.2) r)
    rw [mod_min]
    split
    · rename_i hk
      refine ⟨⟨h1, ?_, by rw [stb_mod h1.1 hk]; exact h3, fun e => Nat.lt_of_le_of_lt cnt_mod (h4 e)⟩, ?_⟩
      · rcases h2 with h2 | h2
        · exact .inl h2
        · right
          rw [Nat.testBit_mod_two_pow, h2]
          simp
          omega
      · rw [xr_mod h1.1 hk]
        exact ih
    · rename_i hk
      rw [xr_mod2 (by omega : low (xr m p.2) r < p.2)]
      exact ih
theorem fin_thw : ∀ {w : List Mv} {m : Nat}, okw m w → fin (m % 2 ^ low m w) (thw m w) = fin m w
  | [], m, _ => by
    show m % 2 ^ hi m = m
    exact Nat.mod_eq_of_lt (lt_hi m)
  | p :: r, m, ⟨h1, _, h5⟩ => by
    have ih := fin_thw h5
    show fin (m % 2 ^ min (low (xr m p.2) r) (hi m)) (if p.2 ≤ low (xr m p.2) r then p :: thw (xr m p.2) r else thw (xr m p.2) r) = fin (xr m p.2) r
    rw [mod_min]
    split
    · rename_i hk
      show fin (xr (m % 2 ^ low (xr m p.2) r) p.2) (thw (xr m p.2) r) = _
      rw [xr_mod h1.1 hk]
      exact ih
    · rename_i hk
      rw [xr_mod2 (by omega : low (xr m p.2) r < p.2)]
      exact ih
/-- each set is a set of the other way without some highest marks -/
theorem sets_thw : ∀ {w : List Mv} {m : Nat}, okw m w → ∀ x, x ∈ (m % 2 ^ low m w) :: sbh (m % 2 ^ low m w) (thw m w) → ∃ y l, y ∈ m :: sbh m w ∧ x = y % 2 ^ l
  | [], m, _, x, hx => by
    have : x = m % 2 ^ low m [] := by simpa [thw, sbh] using hx
    exact ⟨m, _, by simp, this⟩
  | p :: r, m, ⟨h1, _, h5⟩, x, hx => by
    have ih := sets_thw h5
    have e : low m (p :: r) = min (low (xr m p.2) r) (hi m) := rfl
    rw [e, mod_min] at hx
    rw [thw] at hx
    split at hx
    · rename_i hk
      rcases List.mem_cons.mp hx with hx | hx
      · exact ⟨m, _, by simp, hx⟩
      · have hx : x ∈ xr (m % 2 ^ low (xr m p.2) r) p.2 :: sbh (xr (m % 2 ^ low (xr m p.2) r) p.2) (thw (xr m p.2) r) := hx
        rw [xr_mod h1.1 hk] at hx
        obtain ⟨y, l, hy, e⟩ := ih x hx
        exact ⟨y, l, List.mem_cons_of_mem _ hy, e⟩
    · rename_i hk
      rw [xr_mod2 (by omega : low (xr m p.2) r < p.2)] at hx
      obtain ⟨y, l, hy, e⟩ := ih x hx
      exact ⟨y, l, List.mem_cons_of_mem _ hy, e⟩
/-- what is held between a way and the thinned one -/
structure Thn (n s : Nat) (w x : List Mv) : Prop where
  leg : lgw n s 0 x
  fin : fin 0 x = fin 0 w
  sub : x.Sublist w
  cnt : ∀ a ∈ 0 :: sbh 0 x, ∃ b ∈ 0 :: sbh 0 w, cnt 24 a ≤ cnt 24 b
theorem Thn.once {n s : Nat} {w x : List Mv} (hn : n ≤ 900) (h : Thn n s w x) : Thn n s w (once x) := by
  have ok := lgw_ok hn h.leg
  have z : 0 % 2 ^ low 0 x = 0 := Nat.zero_mod _
  refine ⟨?_, ?_, thw_sub.trans h.sub, fun a ha => ?_⟩
  · have := lgw_thw h.leg
    rw [z] at this; exact this
  · have := fin_thw ok
    rw [z] at this
    exact this.trans h.fin
  · have := sets_thw ok a
    rw [z] at this
    obtain ⟨y, l, hy, rfl⟩ := this ha
    obtain ⟨b, hb, e⟩ := h.cnt y hy
    exact ⟨b, hb, Nat.le_trans cnt_mod e⟩
theorem Thn.itn {n s : Nat} {w : List Mv} (hn : n ≤ 900) (h : lgw n s 0 w) : ∀ k, Thn n s w (itn k w)
  | 0 => ⟨h, rfl, List.Sublist.refl _, fun a ha => ⟨a, ha, Nat.le_refl _⟩⟩
  | k + 1 => (Thn.itn hn h k).once hn
theorem Fx.thn {n s : Nat} {w x : List Mv} (hn : n ≤ 900) (h : lgw n s 0 w) (f : Fx w x) : Thn n s w x := by
  obtain ⟨⟨k, rfl⟩, _⟩ := f
  exact Thn.itn hn h k
theorem lgw_mem {n s : Nat} : ∀ {w : List Mv} {m : Nat}, lgw n s m w → ∀ p ∈ w, 1 ≤ p.2 ∧ p.2 ≤ n
  | [], _, _, p, hp => by simp at hp
  | q :: r, m, ⟨h1, h2⟩, p, hp => by
    rcases List.mem_cons.mp hp with e | hp
    · subst e; exact h1.1
    · exact lgw_mem h2 p hp
/-- a way gone back -/
noncomputable def bkw (w : List Mv) : List Mv := (w.map fun p => (!p.1, p.2)).reverse
theorem stb_xr {m k : Nat} : stb k (xr m k) = !stb k m := by
  unfold stb
  rw [xr_bit]
  simp
theorem xr_xr {m k : Nat} : xr (xr m k) k = m := Nat.eq_of_testBit_eq fun j => by
  rw [xr_bit, xr_bit]
  cases m.testBit j <;> cases decide (k - 1 = j) <;> rfl
theorem lgw_cnt {n s : Nat} : ∀ {w : List Mv} {m : Nat}, cnt n m ≤ s → lgw n s m w → cnt n (fin m w) ≤ s
  | [], _, h, _ => h
  | p :: r, m, h, ⟨⟨h1, _, h3, h4⟩, h5⟩ => by
    refine lgw_cnt (m := xr m p.2) ?_ h5
    cases e : stb p.2 m with
    | true => have := cnt_down h1.1 h1.2 e; omega
    | false =>
      rw [e] at h3
      rw [cnt_up h1.1 h1.2 e]
      exact h4 h3
theorem lgw_bkw {n s : Nat} : ∀ {w : List Mv} {m : Nat}, cnt n m ≤ s → lgw n s m w → lgw n s (fin m w) (bkw w) ∧ fin (fin m w) (bkw w) = m
  | [], _, _, _ => ⟨trivial, rfl⟩
  | p :: r, m, h, ⟨⟨h1, h2, h3, h4⟩, h5⟩ => by
    have hc : cnt n (xr m p.2) ≤ s := by
      cases e : stb p.2 m with
      | true => have := cnt_down h1.1 h1.2 e; omega
      | false =>
        rw [e] at h3
        rw [cnt_up h1.1 h1.2 e]
        exact h4 h3
    obtain ⟨i1, i2⟩ := lgw_bkw hc h5
    have e : bkw (p :: r) = bkw r ++ [(!p.1, p.2)] := by unfold bkw; rw [List.map_cons, List.reverse_cons]
    have ef : fin m (p :: r) = fin (xr m p.2) r := rfl
    rw [e, ef, lgw_app, fin_app, i2]
    refine ⟨⟨i1, ⟨h1, ?_, ?_, fun hb => ?_⟩, trivial⟩, xr_xr⟩
    · rcases h2 with h2 | h2
      · exact .inl h2
      · by_cases hk : p.2 = 1
        · exact .inl hk
        · right
          show (xr m p.2).testBit (p.2 - 2) = true
          rw [xr_bit, h2]
          have : ¬ (p.2 - 1 = p.2 - 2) := by omega
          simp [this]
    · show (!p.1) = !stb p.2 (xr m p.2)
      rw [stb_xr, h3]
    · have hp : p.1 = false := by simpa using hb
      rw [hp] at h3
      have hs : stb p.2 m = true := by simpa using h3.symm
      have := cnt_down h1.1 h1.2 hs
      omega
theorem bkw_len {w : List Mv} : (bkw w).length = w.length := by simp [bkw]
theorem sorted_one : ∀ {a b : List Int}, a.Perm b → a.Pairwise (· ≤ ·) → b.Pairwise (· ≤ ·) → a = b := by
  intro a b h h1 h2
  exact h.eq_of_pairwise (fun x y _ _ h1 h2 => Int.le_antisymm h1 h2) h1 h2
theorem xadd_lst {G : Gp} {a b : Addr} {xs ys : List D} {q : DK} (ha : G a = some (.lst xs)) (hb : G b = some (.lst ys)) (hz : xs.length + ys.length ≤ sizeLine) (k : ∀ p, G p = none → q (.ref p) (gup G p (.lst (xs ++ ys)))) : xAdd (.ref a) (.ref b) G q := by
  unfold xAdd
  simp only [ha, hb]
  exact ⟨hz, k⟩
theorem xsum_ints {G : Gp} {a : Addr} {ns : List Int} {q : DK} (h : seqOf (G a) = some (ns.map .int)) (k : q (.int ns.sum) G) : xSum [.ref a] G q := by
  unfold xSum
  simp only [h, allInt_map]
  exact k
theorem cnt_zero : ∀ {n : Nat}, cnt n 0 = 0
  | 0 => rfl
  | n + 1 => by rw [cnt, cnt_zero, Nat.zero_testBit]; rfl
end L3

namespace L3
open PySem PySem.Spec PyProof.Rows L2 Rw
noncomputable def cap : Nat → Bool → Nat
  | 0, _ => 0
  | s + 1, true => 2 ^ s
  | s + 1, false => 2 ^ (s + 1) - 1
/-- a way from the mark at f to the mark at l, by s places; b: alone -/
noncomputable def WOK (f l s : Nat) (b : Bool) (w : List Mv) : Prop := ∀ n S m, l ≤ n → (f = 0 ∨ m.testBit (f - 1) = true) → (∀ i, f ≤ i → i < l → m.testBit i = false) → cnt n m + s ≤ S →
  lgw n S m w ∧ (∀ i, (i < f ∨ l ≤ i) → (fin m w).testBit i = m.testBit i) ∧ (fin m w).testBit (l - 1) = true ∧ (b = true → ∀ i, f ≤ i → i + 1 < l → (fin m w).testBit i = false)
theorem wok_one {f s : Nat} {b : Bool} (hs : 1 ≤ s) : WOK f (f + 1) s b [(true, f + 1)] := by
  intro n S m hn hf hz hc
  have hb := hz f (Nat.le_refl _) (Nat.lt_succ_self _)
  refine ⟨⟨⟨⟨by show 1 ≤ f + 1; omega, hn⟩, ?_, ?_, fun _ => by omega⟩, trivial⟩, fun i hi => ?_, ?_, fun _ i h1 h2 => by omega⟩
  · rcases hf with h | h
    · left; show f + 1 = 1; omega
    · by_cases h0 : f = 0
      · left; show f + 1 = 1; omega
      · right
        show m.testBit (f + 1 - 2) = true
        have : f + 1 - 2 = f - 1 := by omega
        rw [this]; exact h
  · show true = !m.testBit f
    rw [hb]; rfl
  · show (xr m (f + 1)).testBit i = _
    have : ¬ (f + 1 - 1 = i) := by omega
    rw [xr_bit, decide_eq_false this, Bool.xor_false]
  · show (xr m (f + 1)).testBit (f + 1 - 1) = true
    rw [xr_bit]
    show (m.testBit f ^^ decide (f = f)) = true
    rw [hb]; simp
theorem WOK.fin_xr {f l s : Nat} {w : List Mv} (hl : f < l) (h : WOK f l s true w) {n S m : Nat} (hn : l ≤ n) (hf : f = 0 ∨ m.testBit (f - 1) = true) (hz : ∀ i, f ≤ i → i < l → m.testBit i = false) (hc : cnt n m + s ≤ S) : fin m w = xr m l := by
  obtain ⟨_, h2, h3, h4⟩ := h n S m hn hf hz hc
  refine Nat.eq_of_testBit_eq fun i => ?_
  rw [xr_bit]
  by_cases e : l - 1 = i
  · subst e
    rw [h3, hz _ (by omega) (by omega)]
    simp
  · have : decide (l - 1 = i) = false := decide_eq_false e
    rw [this, Bool.xor_false]
    by_cases h5 : i < f ∨ l ≤ i
    · exact h2 i h5
    · rw [h4 rfl i (by omega) (by omega), hz i (by omega) (by omega)]
theorem xr_comm {m k l : Nat} : xr (xr m k) l = xr (xr m l) k := Nat.eq_of_testBit_eq fun j => by
  rw [xr_bit, xr_bit, xr_bit, xr_bit]
  cases m.testBit j <;> cases decide (k - 1 = j) <;> cases decide (l - 1 = j) <;> rfl
theorem xr_other {m k i : Nat} (h : ¬ k - 1 = i) : (xr m k).testBit i = m.testBit i := by
  rw [xr_bit, decide_eq_false h, Bool.xor_false]
theorem xr_self {m k : Nat} (h : m.testBit (k - 1) = false) : (xr m k).testBit (k - 1) = true := by
  rw [xr_bit, h]; simp
theorem wok_alone {f c l s : Nat} {w1 w2 w3 : List Mv} (h1 : f < c) (h2 : c < l) (W1 : WOK f c (s + 1) true w1) (W2 : WOK c l s true w2) (W3 : WOK f c s true w3) : WOK f l (s + 1) true (w1 ++ w2 ++ bkw w3) := by
  intro n S m hn hf hz hc
  have z1 : ∀ i, f ≤ i → i < c → m.testBit i = false := fun i a b => hz i a (by omega)
  have e1 := W1.fin_xr h1 (n := n) (S := S) (by omega) hf z1 hc
  obtain ⟨L1, _⟩ := W1 n S m (by omega) hf z1 hc
  have hb1 : stb c m = false := hz (c - 1) (by omega) (by omega)
  have c1 : cnt n (xr m c) = cnt n m + 1 := cnt_up (by omega) (by omega) hb1
  have f2 : c = 0 ∨ (xr m c).testBit (c - 1) = true := .inr (xr_self hb1)
  have z2 : ∀ i, c ≤ i → i < l → (xr m c).testBit i = false := fun i a b => by rw [xr_other (by omega)]; exact hz i (by omega) b
  have e2 := W2.fin_xr h2 (n := n) (S := S) hn f2 z2 (by omega)
  obtain ⟨L2, _⟩ := W2 n S (xr m c) hn f2 z2 (by omega)
  have hbl : stb l m = false := hz (l - 1) (by omega) (by omega)
  have c3 : cnt n (xr m l) = cnt n m + 1 := cnt_up (by omega) hn hbl
  have f3 : f = 0 ∨ (xr m l).testBit (f - 1) = true := by
    rcases hf with h | h
    · exact .inl h
    · by_cases h0 : f = 0
      · exact .inl h0
      · exact .inr (by rw [xr_other (by omega)]; exact h)
  have z3 : ∀ i, f ≤ i → i < c → (xr m l).testBit i = false := fun i a b => by rw [xr_other (by omega)]; exact hz i a (by omega)
  have e3 := W3.fin_xr h1 (n := n) (S := S) (by omega) f3 z3 (by omega)
  obtain ⟨L3, _⟩ := W3 n S (xr m l) (by omega) f3 z3 (by omega)
  obtain ⟨B1, B2⟩ := lgw_bkw (by omega : cnt n (xr m l) ≤ S) L3
  rw [e3, xr_comm] at B1 B2
  have et : fin m (w1 ++ w2 ++ bkw w3) = xr m l := by rw [fin_app, fin_app, e1, e2, B2]
  refine ⟨?_, ?_⟩
  · rw [lgw_app, lgw_app, fin_app, e1, e2]
    exact ⟨⟨L1, L2⟩, B1⟩
  · rw [et]
    refine ⟨fun i hi => xr_other (by omega), xr_self hbl, fun _ i a b => by rw [xr_other (by omega)]; exact hz i a (by omega)⟩
theorem wok_some {f c l s : Nat} {w1 w2 : List Mv} (h1 : f < c) (h2 : c < l) (W1 : WOK f c (s + 1) true w1) (W2 : WOK c l s false w2) : WOK f l (s + 1) false (w1 ++ w2) := by
  intro n S m hn hf hz hc
  have z1 : ∀ i, f ≤ i → i < c → m.testBit i = false := fun i a b => hz i a (by omega)
  have e1 := W1.fin_xr h1 (n := n) (S := S) (by omega) hf z1 hc
  obtain ⟨L1, _⟩ := W1 n S m (by omega) hf z1 hc
  have hb1 : stb c m = false := hz (c - 1) (by omega) (by omega)
  have c1 : cnt n (xr m c) = cnt n m + 1 := cnt_up (by omega) (by omega) hb1
  have f2 : c = 0 ∨ (xr m c).testBit (c - 1) = true := .inr (xr_self hb1)
  have z2 : ∀ i, c ≤ i → i < l → (xr m c).testBit i = false := fun i a b => by rw [xr_other (by omega)]; exact hz i (by omega) b
  obtain ⟨L2, q1, q2, _⟩ := W2 n S (xr m c) hn f2 z2 (by omega)
  refine ⟨by rw [lgw_app, e1]; exact ⟨L1, L2⟩, fun i hi => ?_, by rw [fin_app, e1]; exact q2, fun h => by cases h⟩
  rw [fin_app, e1, q1 i (by omega), xr_other (by omega)]
theorem WOK.start {l s n S : Nat} {b : Bool} {w : List Mv} (h : WOK 0 l s b w) (hn : l ≤ n) (hs : s ≤ S) : lgw n S 0 w ∧ (fin 0 w).testBit (l - 1) = true := by
  obtain ⟨a, _, c, _⟩ := h n S 0 hn (.inl rfl) (fun i _ _ => Nat.zero_testBit i) (by rw [cnt_zero]; omega)
  exact ⟨a, c⟩
theorem WOK.left {l s n S : Nat} {w : List Mv} (h0 : 0 < l) (h : WOK 0 l s true w) (hn : l ≤ n) (hs : s ≤ S) : fin 0 w = 2 ^ (l - 1) := by
  have e := h.fin_xr h0 (n := n) (S := S) hn (.inl rfl) (fun i _ _ => Nat.zero_testBit i) (by rw [cnt_zero]; omega)
  rw [e]
  unfold xr
  exact Nat.zero_xor _
theorem cap_pos {s : Nat} {b : Bool} (h : 1 ≤ s) : 1 ≤ cap s b := by
  cases s with
  | zero => omega
  | succ s =>
    have := Nat.two_pow_pos s
    cases b
    · simp only [cap]; rw [Nat.pow_succ]; omega
    · simp only [cap]; omega
/-- a list of the marks that stand -/
noncomputable def mks (m : Nat) : List Int := ((List.range 24).filter fun i => m.testBit i).map fun i : Nat => (i : Int) + 1
theorem mem_mks {m : Nat} {x : Int} : x ∈ mks m ↔ ∃ i : Nat, i < 24 ∧ m.testBit i = true ∧ x = (i : Int) + 1 := by
  unfold mks
  rw [List.mem_map]
  constructor
  · rintro ⟨i, hi, rfl⟩
    rw [List.mem_filter, List.mem_range] at hi
    exact ⟨i, hi.1, hi.2, rfl⟩
  · rintro ⟨i, h1, h2, rfl⟩
    exact ⟨i, List.mem_filter.mpr ⟨List.mem_range.mpr h1, h2⟩, rfl⟩
theorem mks_has {m k : Nat} (h1 : 1 ≤ k) (h2 : k ≤ 24) : (k : Int) ∈ mks m ↔ stb k m = true := by
  rw [mem_mks]
  constructor
  · rintro ⟨i, _, hb, e⟩
    have : k - 1 = i := by omega
    unfold stb
    rw [this]; exact hb
  · intro h
    exact ⟨k - 1, by omega, h, by omega⟩
theorem rng_cnt {m : Nat} : ∀ n, ((List.range n).filter fun i => m.testBit i).length = cnt n m
  | 0 => rfl
  | n + 1 => by
    rw [List.range_succ, List.filter_append, List.length_append, rng_cnt n, cnt]
    cases h : m.testBit n <;> simp [h]
theorem mks_len {m : Nat} : (mks m).length = cnt 24 m := by
  unfold mks
  rw [List.length_map, rng_cnt]
theorem mks_lt {m : Nat} : (mks m).Pairwise (· < ·) := by
  unfold mks
  rw [List.pairwise_map]
  refine List.Pairwise.filter _ ?_
  exact List.pairwise_lt_range.imp fun h => by omega
theorem nodup_lt {l : List Int} (h : l.Pairwise (· < ·)) : l.Nodup := h.imp fun h e => by subst e; exact absurd h (Int.lt_irrefl _)
theorem same_sorted {a b : List Int} (ha : a.Pairwise (· < ·)) (hb : b.Pairwise (· < ·)) (h : ∀ x, x ∈ a ↔ x ∈ b) : a = b :=
  sorted_one ((List.perm_ext_iff_of_nodup (nodup_lt ha) (nodup_lt hb)).mpr h) (ha.imp Int.le_of_lt) (hb.imp Int.le_of_lt)
theorem mks_lay {m k : Nat} {ns : List Int} (h1 : 1 ≤ k) (h2 : k ≤ 24) (h : stb k m = false) (hp : ns.Perm (mks m ++ [(k : Int)])) (hs : ns.Pairwise (· ≤ ·)) : ns = mks (xr m k) := by
  refine sorted_one (hp.trans ?_) hs (mks_lt.imp Int.le_of_lt)
  refine (List.perm_ext_iff_of_nodup ?_ (nodup_lt mks_lt)).mpr fun x => ?_
  · refine List.nodup_append.mpr ⟨nodup_lt mks_lt, by simp, fun a ha b hb => ?_⟩
    have : b = (k : Int) := by simpa using hb
    subst this
    intro e
    subst e
    rw [mks_has h1 h2, h] at ha; cases ha
  · rw [List.mem_append, List.mem_singleton, mem_mks, mem_mks]
    unfold stb at h
    constructor
    · rintro (⟨i, a, b, c⟩ | c)
      · refine ⟨i, a, ?_, c⟩
        by_cases e : k - 1 = i
        · rw [← e] at b; rw [h] at b; cases b
        · rw [xr_other e]; exact b
      · exact ⟨k - 1, by omega, xr_self h, by omega⟩
    · rintro ⟨i, a, b, c⟩
      by_cases e : k - 1 = i
      · right; omega
      · left; exact ⟨i, a, by rw [xr_other e] at b; exact b, c⟩
theorem mks_clear {m k : Nat} (h1 : 1 ≤ k) (h : stb k m = true) : (mks m).filter (fun x => !decide (x = (k : Int))) = mks (xr m k) := by
  refine same_sorted (mks_lt.filter _) mks_lt fun x => ?_
  rw [List.mem_filter, mem_mks, mem_mks]
  unfold stb at h
  constructor
  · rintro ⟨⟨i, a, b, c⟩, d⟩
    have d : ¬ x = (k : Int) := by simpa using d
    exact ⟨i, a, by rw [xr_other (by omega)]; exact b, c⟩
  · rintro ⟨i, a, b, c⟩
    have e : ¬ k - 1 = i := fun e => by
      subst e
      rw [xr_bit, h] at b
      simp at b
    refine ⟨⟨i, a, by rw [xr_other e] at b; exact b, c⟩, ?_⟩
    have : ¬ x = (k : Int) := by omega
    simp [this]
theorem cnt_ext {n m : Nat} (h : m < 2 ^ n) : ∀ k, cnt (n + k) m = cnt n m
  | 0 => rfl
  | k + 1 => by
    rw [← Nat.add_assoc, cnt, cnt_ext h k, Nat.testBit_lt_two_pow (Nat.lt_of_lt_of_le h (Nat.pow_le_pow_right (by decide) (by omega)))]
    rfl
theorem cnt_24 {n m : Nat} (h : m < 2 ^ n) (hn : n ≤ 24) : cnt 24 m = cnt n m := by
  obtain ⟨k, e⟩ : ∃ k, 24 = n + k := ⟨24 - n, by omega⟩
  rw [e]; exact cnt_ext h k
noncomputable abbrev Pm := Option Mv
noncomputable def pmD : Pm → D
  | none => .tup [.str "show"]
  | some p => mD p
noncomputable def nxp (m : Nat) : Pm → Nat
  | none => m
  | some p => xr m p.2
noncomputable def okm (m : Nat) : Pm → Prop
  | none => True
  | some p => (1 ≤ p.2 ∧ p.2 ≤ 24) ∧ p.1 = !stb p.2 m
noncomputable def okp : Nat → List Pm → Prop
  | _, [] => True
  | m, p :: r => okm m p ∧ okp (nxp m p) r
noncomputable def finp : Nat → List Pm → Nat
  | m, [] => m
  | m, p :: r => finp (nxp m p) r
theorem okp_app : ∀ {l r : List Pm} {m : Nat}, okp m (l ++ r) ↔ okp m l ∧ okp (finp m l) r
  | [], r, m => by show okp m r ↔ True ∧ okp m r; simp
  | p :: l, r, m => by
    show okm m p ∧ okp (nxp m p) (l ++ r) ↔ (okm m p ∧ okp (nxp m p) l) ∧ okp (finp (nxp m p) l) r
    rw [okp_app, and_assoc]
theorem finp_app : ∀ {l r : List Pm} {m : Nat}, finp m (l ++ r) = finp (finp m l) r
  | [], _, _ => rfl
  | p :: l, r, m => by show finp (nxp m p) (l ++ r) = _; rw [finp_app]; rfl
theorem okp_some {n s : Nat} (hn : n ≤ 24) : ∀ {w : List Mv} {m : Nat}, lgw n s m w → okp m (w.map some)
  | [], _, _ => trivial
  | p :: r, m, ⟨⟨h1, _, h3, _⟩, h5⟩ => ⟨⟨⟨h1.1, by omega⟩, h3⟩, okp_some hn h5⟩
theorem finp_some : ∀ {w : List Mv} {m : Nat}, finp m (w.map some) = fin m w
  | [], _ => rfl
  | p :: r, m => finp_some (w := r) (m := xr m p.2)
theorem pmD_some {w : List Mv} : (w.map some).map pmD = w.map mD := by rw [List.map_map]; rfl
noncomputable def flp : Pm → Pm
  | none => none
  | some p => some (!p.1, p.2)
noncomputable def bkp (w : List Pm) : List Pm := (w.map flp).reverse
theorem bkp_some {w : List Mv} : bkp (w.map some) = (bkw w).map some := by
  unfold bkp bkw
  rw [List.map_map, List.map_reverse, List.map_map]
  rfl
theorem bkp_len {w : List Pm} : (bkp w).length = w.length := by simp [bkp]
/-- a plan that was drawn -/
noncomputable def PLN (n s : Nat) (left : Bool) (P : List Pm) : Prop :=
  if left then ∃ w : List Mv, P = w.map some ∧ lgw n s 0 w ∧ fin 0 w = 2 ^ (n - 1)
  else ∃ u v : List Mv, P = u.map some ++ [none] ++ (bkw v).map some ∧ lgw n s 0 u ∧ lgw n s 0 v ∧ fin 0 u = fin 0 v ∧ (fin 0 u).testBit (n - 1) = true
theorem PLN.okp {n s : Nat} {left : Bool} {P : List Pm} (hn : n ≤ 24) (h : PLN n s left P) : okp 0 P := by
  unfold PLN at h
  split at h
  · obtain ⟨w, rfl, hw, _⟩ := h
    exact okp_some hn hw
  · obtain ⟨u, v, rfl, hu, hv, e, _⟩ := h
    rw [okp_app, okp_app, finp_app, finp_some]
    refine ⟨⟨okp_some hn hu, trivial, trivial⟩, ?_⟩
    show L3.okp (fin 0 u) _
    rw [e]
    exact okp_some hn (lgw_bkw (by rw [cnt_zero]; exact Nat.zero_le _) hv).1
theorem bkw_mem {w : List Mv} {p : Mv} (h : p ∈ bkw w) : ∃ q ∈ w, q.2 = p.2 := by
  unfold bkw at h
  rw [List.mem_reverse, List.mem_map] at h
  obtain ⟨q, hq, rfl⟩ := h
  exact ⟨q, hq, rfl⟩
theorem PLN.mem {n s : Nat} {left : Bool} {P : List Pm} (h : PLN n s left P) : ∀ p, some p ∈ P → 1 ≤ p.2 ∧ p.2 ≤ n := by
  unfold PLN at h
  intro p hp
  split at h
  · obtain ⟨w, rfl, hw, _⟩ := h
    obtain ⟨q, hq, e⟩ := List.mem_map.mp hp
    cases e
    exact lgw_mem hw p hq
  · obtain ⟨u, v, rfl, hu, hv, _⟩ := h
    rcases List.mem_append.mp hp with hp | hp
    · rcases List.mem_append.mp hp with hp | hp
      · obtain ⟨q, hq, e⟩ := List.mem_map.mp hp
        cases e
        exact lgw_mem hu p hq
      · simp at hp
    · obtain ⟨q, hq, e⟩ := List.mem_map.mp hp
      cases e
      obtain ⟨r, hr, er⟩ := bkw_mem hq
      rw [← er]
      exact lgw_mem hv r hr
theorem ok_false {P : Program} {w : World} {K : PySem.W.Frag} {mg : Str → Option Value} {base : Heap} {n : Nat} {x qual : Str} {st : Stmt} {ps : List Str} {d : FnAt K x qual st ps} {S : Sp3} (h : ∀ ds G R, ¬ S ds G R) : Ok P w mg base n d S :=
  ⟨fun vs H Q E ⟨ds, G, R, _, _, s, _⟩ => absurd s (h ds G R), fun A outer s H args us vs Q E _ _ _ _ ⟨ds, G, R, _, _, s, _⟩ => absurd s (h ds G R)⟩
theorem xin_ints {neg : Bool} {G : Gp} {a : Addr} {w : Int} {ns : List Int} {q : DK} (h : seqOf (G a) = some (ns.map .int)) (k : q (.bl (if neg then !decide (w ∈ ns) else decide (w ∈ ns))) G) : xInB neg (.int w) (.ref a) G q := by
  unfold xInB
  simp only [h, intsOf_map]
  exact k
theorem xadd_ls {G : Gp} {a b : Addr} {xs ys : List D} {q : DK} (ha : G a = some (.lst xs)) (hb : G b = some (.lst ys)) (hz : xs.length + ys.length ≤ 100000) (k : ∀ p, G p = none → q (.ref p) (gup G p (.lst (xs ++ ys)))) : xAdd (.ref a) (.ref b) G q :=
  xadd_lst ha hb (Nat.le_of_lt (Nat.lt_of_le_of_lt hz (by decide))) k
end L3
namespace Law
open PySem L2 L3 Rw
theorem Adv.grow {G G1 G2 : Gp} {st : Addr} (a : Adv st G G1) (g : Grow G1 G2) : Adv st G G2 := ⟨a.at_.grow g, fun c o h e => g.kp _ _ (a.kp c o h e)⟩
end Law

namespace L3
open PySem PySem.Spec PyProof.Rows L2 Rw
theorem bkp_cons {p : Pm} {r : List Pm} : bkp (p :: r) = bkp r ++ [flp p] := by unfold bkp; rw [List.map_cons, List.reverse_cons]
theorem bkw_bkw {w : List Mv} : bkw (bkw w) = w := by
  unfold bkw
  rw [List.map_reverse, List.reverse_reverse, List.map_map]
  have : ((fun p : Mv => (!p.1, p.2)) ∘ fun p : Mv => (!p.1, p.2)) = id := by funext p; show (!(!p.1), p.2) = p; rw [Bool.not_not]
  rw [this, List.map_id]
theorem PLN.turned {n s : Nat} {P : List Pm} (h : PLN n s false P) : PLN n s false (bkp P) := by
  unfold PLN at h ⊢
  rw [if_neg Bool.false_ne_true] at h ⊢
  obtain ⟨u, v, rfl, hu, hv, e, hb⟩ := h
  refine ⟨v, u, ?_, hv, hu, e.symm, by rw [← e]; exact hb⟩
  have : bkp (u.map some ++ [none] ++ (bkw v).map some) = bkp ((bkw v).map some) ++ [none] ++ bkp (u.map some) := by
    unfold bkp
    simp [flp]
  rw [this, bkp_some, bkp_some, bkw_bkw]
/-- what a plan is held against, move by move -/
noncomputable def ckp (n s : Nat) : Nat → Bool → List Pm → Prop
  | _, _, [] => True
  | m, sh, none :: r => (m.testBit (n - 1) = true ∧ sh = false) ∧ ckp n s m true r
  | m, sh, some p :: r => lgl n s m p ∧ ckp n s (xr m p.2) sh r
noncomputable def shw : Bool → List Pm → Bool
  | sh, [] => sh
  | _, none :: r => shw true r
  | sh, some _ :: r => shw sh r
theorem ckp_app {n s : Nat} : ∀ {l r : List Pm} {m : Nat} {sh : Bool}, ckp n s m sh (l ++ r) ↔ ckp n s m sh l ∧ ckp n s (finp m l) (shw sh l) r
  | [], r, m, sh => by show ckp n s m sh r ↔ True ∧ ckp n s m sh r; simp
  | none :: l, r, m, sh => by
    show _ ∧ ckp n s m true (l ++ r) ↔ (_ ∧ ckp n s m true l) ∧ ckp n s (finp m l) (shw true l) r
    rw [ckp_app]
    exact and_assoc.symm
  | some p :: l, r, m, sh => by
    show _ ∧ ckp n s (xr m p.2) sh (l ++ r) ↔ (_ ∧ ckp n s (xr m p.2) sh l) ∧ ckp n s (finp (xr m p.2) l) (shw sh l) r
    rw [ckp_app, and_assoc]
theorem shw_app : ∀ {l r : List Pm} {sh : Bool}, shw sh (l ++ r) = shw (shw sh l) r
  | [], _, _ => rfl
  | none :: l, r, sh => shw_app (l := l)
  | some _ :: l, r, sh => shw_app (l := l)
theorem ckp_some {n s : Nat} {sh : Bool} : ∀ {w : List Mv} {m : Nat}, lgw n s m w → ckp n s m sh (w.map some)
  | [], _, _ => trivial
  | p :: r, m, ⟨h1, h2⟩ => ⟨h1, ckp_some h2⟩
theorem shw_some {sh : Bool} : ∀ {w : List Mv}, shw sh (w.map some) = sh
  | [] => rfl
  | p :: r => shw_some (w := r)
theorem PLN.ckp {n s : Nat} {left : Bool} {P : List Pm} (h : PLN n s left P) : ckp n s 0 false P ∧ shw false P = (!left) ∧ finp 0 P = if left then 2 ^ (n - 1) else 0 := by
  unfold PLN at h
  split at h
  · rename_i hl
    obtain ⟨w, rfl, hw, e⟩ := h
    refine ⟨ckp_some hw, by rw [shw_some, hl]; rfl, by rw [finp_some, hl, if_pos rfl]; exact e⟩
  · rename_i hl
    have hl : left = false := by simpa using hl
    obtain ⟨u, v, rfl, hu, hv, e, hb⟩ := h
    obtain ⟨b1, b2⟩ := lgw_bkw (by rw [cnt_zero]; exact Nat.zero_le _) hv
    subst hl
    refine ⟨?_, ?_, ?_⟩
    · rw [ckp_app, ckp_app, finp_app, finp_some, shw_some]
      refine ⟨⟨ckp_some hu, ⟨hb, rfl⟩, trivial⟩, ?_⟩
      show L3.ckp n s (fin 0 u) _ _
      rw [e]
      exact ckp_some b1
    · rw [shw_app, shw_app, shw_some, shw_some]; rfl
    · rw [finp_app, finp_app, if_neg Bool.false_ne_true, finp_some]
      show fin (finp 0 (u.map some)) (bkw v) = 0
      rw [finp_some, e]
      exact b2
theorem ckp_lt {n s : Nat} : ∀ {w : List Pm} {m : Nat} {sh : Bool}, m < 2 ^ n → ckp n s m sh w → finp m w < 2 ^ n
  | [], _, _, h, _ => h
  | none :: r, m, sh, h, ⟨_, h2⟩ => ckp_lt (w := r) h h2
  | some p :: r, m, sh, h, ⟨h1, h2⟩ => ckp_lt (w := r) (Nat.xor_lt_two_pow h (Nat.pow_lt_pow_right (by decide) (by have := h1.1; omega))) h2
end L3

namespace L2
open PySem PySem.Spec PyProof.Rows
section
variable {X : Cx} {pins : List (Addr × Obj)} {σ : L2.St} {H : Hp} {s : Shared} {a b : Addr} {A : Around} {E : Value → Shared → Prop}
/-- any tuple of ints and texts is a key -/
theorem key_sq {ks : List Key} (I : Inv X pins σ H s) (h : SqT X.K H b (ks.map kV)) : (tupleKind (mixKind X.prog X.w)).is s.heap ks b := by
  obtain ⟨its, r, ⟨o, e, c, n, d⟩, _⟩ := I.tuple h
  exact ⟨o, its.toArray, n, e, c, d, by simpa using items_are r⟩
/-- d[y], y any tuple -/
noncomputable def tDGetS (K : PySem.W.Frag) (td ty : TE) : TE := fun σ H Q => td σ H fun x H1 => ty σ H1 fun y H2 => ∃ a b kvs k v, x = .ref a ∧ y = .ref b ∧ H2 a = some (.dT kvs) ∧ SqT K H2 b (k.map kV) ∧ valV kvs k = some v ∧ Q v H2
theorem pe_dgetS {o i : Expr} {pos : Pos} {td ty : TE} (hu : X.A.units + 1 < cLine) (ho : PE X o td) (hi : PE X i ty) (hs : NoSl i) : PE X (.Subscript o i pos) (tDGetS X.K td ty) := by
  intro pins s σ H Q I h
  (refine subD_of PySem.F.slot_dict_getitem.lookup hs (thn (ho pins s σ H _ I h) ?_); rintro u s1 ⟨x, H1, I1, rx, q1⟩; refine thn (hi pins s1 σ H1 _ I1 q1) ?_; rintro iv s2 ⟨y, H2, I2, ry, a, b, kvs, k, v, ex, ey, ha, hb, l, q2⟩)
  subst ex
  subst ey
  obtain rfl : u = Value.ref a := rx
  obtain rfl : iv = Value.ref b := ry
  obtain ⟨z, hd, xs, rel, dd⟩ := dt_rd I2.hok (.inl ha)
  refine ⟨dd.typeIs, ?_⟩
  obtain ⟨w', hw, rw'⟩ := RelO.some_of (v := v) (o := (atKey xs k).map (·.2)) (by rw [← l]; exact rel.val k)
  obtain ⟨p, hp, hp2⟩ := Option.map_eq_some_iff.mp hw
  refine wpAny_getItem_heap (tupleKind_room_in1 hu) (key_sq I2 hb) dd hp ?_
  rw [hp2]
  exact ⟨v, H2, I2.tok _, rw', q2⟩
noncomputable def rInD (K : PySem.W.Frag) (neg : Bool) : R2 := fun x y H Q => ∃ a b kvs k, x = .ref b ∧ y = .ref a ∧ H a = some (.dT kvs) ∧ SqT K H b (k.map kV) ∧ Q (.bl (if neg then !(valV kvs k).isSome else (valV kvs k).isSome)) H
theorem op_notInD (hu : X.A.units + 1 < cLine) : OpR X (compareOp .NotIn) (rInD X.K true) := by
  intro pins s σ H x y v u Q I rx ry h
  obtain ⟨a, b, kvs, k, rfl, rfl, ha, hb, q⟩ := h
  obtain rfl : v = Value.ref b := rx
  obtain rfl : u = Value.ref a := ry
  obtain ⟨z, hd, xs, rel, dd⟩ := dt_rd I.hok (.inl ha)
  refine wpAny_notIn_heap (tupleKind_room_in1 hu) (key_sq I hb) hd dd ?_
  have e := (rel.val k).isSome_eq
  rw [Option.isSome_map] at e
  rw [← e]
  exact ⟨.bl (!(valV kvs k).isSome), H, I.tok _, rfl, q⟩
end
end L2
namespace L3
open PySem PySem.Spec PyProof.Rows L2
noncomputable def kD : Key → D
  | .inl i => .int i
  | .inr x => .str x
noncomputable def valD (kvs : List (List Key × D)) (k : List Key) : Option D := (kvs.find? fun kv => decide (kv.1 = k)).map (·.2)
noncomputable def putT (kvs : List (List Key × D)) (k : List Key) (v : D) : List (List Key × D) :=
  if (kvs.any fun kv => decide (kv.1 = k)) = true then kvs.map (fun kv => if kv.1 = k then (kv.1, v) else kv) else kvs ++ [(k, v)]
section
variable {X : Cx} {K : PySem.W.Frag} {G : Gp} {H : Hp} {p : Addr}
theorem relK_inv : ∀ {ks : List Key} {xs : List V}, RelDs K H (ks.map kD) xs → xs = ks.map kV
  | [], xs, r => r.inv_nil
  | .inl i :: ks, xs, r => by
    obtain ⟨x, xs', rfl, h1, h2⟩ := r.inv_cons
    rw [(show RelD K H (.int i) x from h1).int_inv, relK_inv h2]; rfl
  | .inr z :: ks, xs, r => by
    obtain ⟨x, xs', rfl, h1, h2⟩ := r.inv_cons
    rw [(show RelD K H (.str z) x from h1).str_inv, relK_inv h2]; rfl
theorem val_rel {k : List Key} : ∀ {kvs : List (List Key × D)} {ys : List (List Key × V)}, RelPs K H kvs ys → (valD kvs k = none ∧ valV ys k = none) ∨ ∃ d v, valD kvs k = some d ∧ valV ys k = some v ∧ RelD K H d v
  | [], ys, ⟨h1, h2⟩ => by
    have : ys = [] := by cases ys with | nil => rfl | cons y ys => simp at h1
    subst this
    exact .inl ⟨rfl, rfl⟩
  | (k', d) :: kvs, [], ⟨h1, h2⟩ => by simp at h1
  | (k', d) :: kvs, (k2, v) :: ys, ⟨h1, h2⟩ => by
    rw [List.map_cons, List.map_cons] at h1
    obtain ⟨e1, e2⟩ := List.cons.inj h1
    have e1 : k' = k2 := e1
    subst e1
    obtain ⟨x, xs', e3, q1, q2⟩ := h2.inv_cons
    rw [List.map_cons] at e3
    obtain ⟨e4, e5⟩ := List.cons.inj e3
    have e4 : v = x := e4
    subst e4
    by_cases hk : k' = k
    · right
      exact ⟨d, v, by simp [valD, List.find?_cons, hk], valV_pos hk, q1⟩
    · have ih := val_rel (k := k) (kvs := kvs) (ys := ys) ⟨e2, by rw [e5]; exact q2⟩
      have a1 : valD ((k', d) :: kvs) k = valD kvs k := by simp [valD, List.find?_cons, hk]
      rw [a1, valV_neg hk]
      exact ih
theorem map_rel {k : List Key} {d : D} {v : V} (q : RelD K H d v) : ∀ {kvs : List (List Key × D)} {ys : List (List Key × V)}, RelPs K H kvs ys → RelPs K H (kvs.map (fun kv => if kv.1 = k then (kv.1, d) else kv)) (ys.map (fun kv => if kv.1 = k then (kv.1, v) else kv)) ∧ (kvs.any fun kv => decide (kv.1 = k)) = (ys.any fun kv => decide (kv.1 = k))
  | [], ys, ⟨h1, h2⟩ => by
    have : ys = [] := by cases ys with | nil => rfl | cons y ys => simp at h1
    subst this
    exact ⟨⟨rfl, .nil⟩, rfl⟩
  | (k', d') :: kvs, [], ⟨h1, h2⟩ => by simp at h1
  | (k', d') :: kvs, (k2, v') :: ys, ⟨h1, h2⟩ => by
    rw [List.map_cons, List.map_cons] at h1
    obtain ⟨e1, e2⟩ := List.cons.inj h1
    have e1 : k' = k2 := e1
    subst e1
    obtain ⟨x, xs', e3, q1, q2⟩ := h2.inv_cons
    rw [List.map_cons] at e3
    obtain ⟨e4, e5⟩ := List.cons.inj e3
    have e4 : v' = x := e4
    subst e4
    obtain ⟨⟨i1, i2⟩, i3⟩ := map_rel (k := k) q (kvs := kvs) (ys := ys) ⟨e2, by rw [e5]; exact q2⟩
    refine ⟨⟨?_, ?_⟩, by rw [List.any_cons, List.any_cons, i3]⟩
    · rw [List.map_cons, List.map_cons, List.map_cons, List.map_cons, i1]
      by_cases hk : k' = k <;> simp [hk]
    · rw [List.map_cons, List.map_cons, List.map_cons, List.map_cons]
      by_cases hk : k' = k
      · simp only [hk, if_true]; exact .cons q i2
      · simp only [hk, if_false]; exact .cons q1 i2
theorem put_rel {k : List Key} {d : D} {v : V} (q : RelD K H d v) {kvs : List (List Key × D)} {ys : List (List Key × V)} (h : RelPs K H kvs ys) : RelPs K H (putT kvs k d) (putK ys k v) := by
  obtain ⟨i1, i3⟩ := map_rel (k := k) q h
  unfold putT putK
  rw [i3]
  split
  · exact i1
  · exact ⟨by rw [List.map_append, List.map_append, h.1]; rfl, by rw [List.map_append, List.map_append]; exact h.2.append (.cons q .nil)⟩
theorem Le.dT {xs ys : List (List Key × V)} (h : H p = some (.dT xs)) : Le H (upd H p (.dT ys)) :=
  ⟨fun b zs q => by by_cases e : b = p
                    · subst e; rw [h] at q; cases q
                    · rw [upd_ne e]; exact q,
   fun b o u q => by by_cases e : b = p
                     · subst e; rw [h] at q; cases q
                     · rw [upd_ne e]; exact q⟩
noncomputable def dGetD (td ti : TE3) : TE3 := fun σ G q => td σ G fun x G1 => ti σ G1 fun y G2 => ∃ a kvs ks d, x = .ref a ∧ y = .tup (ks.map kD) ∧ G2 a = some (.dit kvs) ∧ valD kvs ks = some d ∧ q d G2
theorem low_getD {td ti : TE3} {σ : L2.St} {Q : VK} (h : lowE K (dGetD td ti) σ H Q) : tDGetS K (lowE K td) (lowE K ti) σ H Q := by
  obtain ⟨σd, G, q, rs, c, t, f⟩ := h
  refine ⟨σd, G, _, rs, c, t, fun x G1 v H1 r1 c1 l1 t1 => ⟨σd, G1, _, rs.le l1, c1, t1, fun y G2 u H2 r2 c2 l2 t2 => ?_⟩⟩
  obtain ⟨a, kvs, ks, d, rfl, rfl, hg, hv, t3⟩ := t2
  have r1' := RelD.le l2 r1
  cases r1'.ref_inv
  obtain ⟨b, xs, rfl, s1, q1⟩ := r2.tup_inv
  obtain rfl := relK_inv q1
  obtain ⟨ys, e, rp⟩ := c2 a _ hg
  rcases val_rel (k := ks) rp with ⟨z, _⟩ | ⟨d', w, z1, z2, z3⟩
  · rw [hv] at z; cases z
  · rw [hv] at z1; cases z1
    exact ⟨a, b, ys, ks, w, rfl, rfl, e, s1, z2, f _ _ _ _ z3 c2 (l1.trans l2) t3⟩
theorem e_dgetD {k : Nat} {o i : Expr} {pos : Pos} {to ti : TE3} (hr : Room k X.A) (ho : E3 X o to) (hi : E3 X i ti) (hs : NoSl i := by exact fun _ _ => rfl) : E3 X (.Subscript o i pos) (dGetD to ti) :=
  weakE (pe_dgetS (hu_of hr) ho hi hs) fun _ _ _ => low_getD
@[reducible] def xInD (neg : Bool) : R3 := fun x y G q => ∃ (ks : List Key) (kvs : List (List Key × D)) (a : Addr), x = .tup (ks.map kD) ∧ y = .ref a ∧ G a = some (.dit kvs) ∧ q (.bl (if neg then !(valD kvs ks).isSome else (valD kvs ks).isSome)) G
theorem low_inD {neg : Bool} {x y : V} {Q : VK} (h : lowR K (xInD neg) x y H Q) : rInD K neg x y H Q := by
  obtain ⟨d, e, G, q, r1, r2, c, ⟨ks, kvs, a, rfl, rfl, hg, t⟩, f⟩ := h
  cases r2.ref_inv
  obtain ⟨b, xs, rfl, s1, q1⟩ := r1.tup_inv
  obtain rfl := relK_inv q1
  obtain ⟨ys, e, rp⟩ := c a _ hg
  refine ⟨a, b, ys, ks, rfl, rfl, e, s1, ?_⟩
  have es : (valD kvs ks).isSome = (valV ys ks).isSome := by
    rcases val_rel (k := ks) rp with ⟨z1, z2⟩ | ⟨d', w, z1, z2, _⟩ <;> rw [z1, z2] <;> rfl
  rw [es] at t
  exact f _ _ _ _ RelD.blI c (Le.refl H) t
theorem x_notInD {k : Nat} (hr : Room k X.A) : Op3 X (compareOp .NotIn) (xInD true) := weakOp (op_notInD (hu_of hr)) fun _ _ _ _ h => low_inD h
noncomputable def dNewD : TE3 := fun _ G q => ∀ p, G p = none → q (.ref p) (gup G p (.dit []))
theorem e_dnewT {pos : Pos} : E3 X (.Dict [] [] pos) dNewD := weakE pe_dnewT fun σ H Q h => by
  obtain ⟨σd, G, q, rs, c, t, f⟩ := h
  exact fun p hp => f (.ref p) _ (.ref p) _ (by rw [RelD]) (c.put (o := .dit []) (Le.fresh hp) ⟨[], upd_same, rfl, .nil⟩) (Le.fresh hp) (t p (c.fresh hp))
noncomputable def dPutD (td : TE3) (ta : TA3) (tv : TE3) : TS3 := fun Dn σ G => tv σ G fun v G1 => td σ G1 fun x G2 => ta σ G2 fun ds G3 => ∃ (a : Addr) (kvs : List (List Key × D)) (ks : List Key), x = .ref a ∧ ds = ks.map kD ∧ ds.length ≤ sizeLine ∧ G3 a = some (.dit kvs) ∧ kvs.length < sizeLine ∧ Dn.nx σ (gup G3 a (.dit (putT kvs ks v)))
theorem s_dputD {k : Nat} {o value : Expr} {es : List Expr} {x1 : Nat} {pos pos' pt : Pos} {to tv : TE3} {ta : TA3} (hr : Room k X.A) (ho : E3 X o to) (ha : A3 X es ta) (hv : E3 X value tv)
    (hs : swapsWith value (some (.Subscript o (.Tuple es x1 pt) pos')) pos.line X.env = pure false := by rfl) : S3 X (.Assign [.Subscript o (.Tuple es x1 pt) pos'] value pos) (dPutD to ta tv) :=
  weakS (ps_dput (hu_of hr) ho (pe_tup ha) hv hs) fun D σ H h => by
    obtain ⟨σd, G, d, rs, c, t, f⟩ := h
    refine ⟨σd, G, _, rs, c, t, fun v G1 w H1 r1 c1 l1 t1 => ⟨σd, G1, _, rs.le l1, c1, t1, fun x G2 u H2 r2 c2 l2 t2 => ⟨σd, G2, _, rs.le (l1.trans l2), c2, t2, fun ds G3 vs H3 r3 c3 l3 t3 => ?_⟩⟩⟩
    obtain ⟨a, kvs, ks, rfl, rfl, hz, hg, hl, t4⟩ := t3
    have r2' := RelD.le l3 r2
    cases r2'.ref_inv
    obtain rfl := relK_inv r3
    refine ⟨by rw [← r3.length]; exact hz, fun b hb => ?_⟩
    obtain ⟨ys, e, rp⟩ := c3 a _ hg
    have hab : a ≠ b := ne_of_none e hb
    have e' : upd H3 b (.tup (ks.map kV)) a = some (.dT ys) := by rw [upd_ne hab]; exact e
    have l4 : Le H3 (upd H3 b (.tup (ks.map kV))) := Le.fresh hb
    have l5 : Le (upd H3 b (.tup (ks.map kV))) (upd (upd H3 b (.tup (ks.map kV))) a (.dT (putK ys ks w))) := Le.dT e'
    have c4 : Con X.K G3 (upd H3 b (.tup (ks.map kV))) := c3.side hb
    have lys : ys.length = kvs.length := by
      have := congrArg List.length rp.1
      rw [List.length_map, List.length_map] at this
      exact this.symm
    refine ⟨a, _, rfl, DPut.t e' upd_same (by rw [lys]; exact hl), ?_⟩
    refine f.nx _ _ _ _ ((((rs.le l1).le l2).le l3).le (l4.trans l5)) ?_ (l1.trans (l2.trans (l3.trans (l4.trans l5)))) t4
    exact c4.put l5 ⟨_, upd_same, (put_rel (RelD.le (l2.trans (l3.trans l4)) r1) (rp.le l4)).le l5⟩
end
end L3

namespace L2
open PySem PySem.Spec PyProof.Rows
/-! ### min of a list of tuples of ints -/
/-- what is compared stands in the heap -/
structure CmpIn (prog : Program) (w : World) (A : Around) (P : Nat → Value → Prop) (bt : Nat → Nat → Bool) (no : List Addr) (T : Heap → Prop) : Prop where
  keep : ∀ h h', T h → (∀ b o, b ∉ no → h.get? b = some o → h'.get? b = some o) → T h'
  cmp : ∀ i j x y (s : Shared) (Q : Value → Shared → Prop) (E : Value → Shared → Prop), T s.heap → P i x → P j y → Q (.bool (bt i j)) s → wpAny (model prog w) A (richCompare .Lt x y) Q E s
section
variable {prog : Program} {w : World} {A : Around} {R : Result → Shared → Prop} {it : Addr} {fp wr : List Addr} {n : Nat} {P : Nat → Value → Prop} {St : Nat → Heap → Prop} {T : Heap → Prop} {bt : Nat → Nat → Bool} {S : Addr}
theorem mnp_name : (toString "min" ++ toString ".loop" : String) = "min.loop" := by decide
theorem mnp_loop (W : Walks prog w A.in1 it fp wr n P St) (C : CmpIn prog w A.in1 P bt (S :: wr) T) (hS : S ∉ fp) : ∀ (m j : Nat) (s : Shared) (x : Value) (c : Nat), m + (j + 1) = n → St (j + 1) s.heap → T s.heap → P (argBest bt j) x →
    s.heap.get? S = some { cls := .type "list", dict := none, data := .seq #[x, x] c, slots := #[] } →
    (∀ y h' tk, P (argBest bt (n - 1)) y → (∀ b o, b ∉ S :: wr → s.heap.get? b = some o → h'.get? b = some o) → R (.ok (.ret y)) { s with heap := h', toks := tk }) → codeAny (model prog w) A (.builtin "min.loop" ⟨[.ref it, .none, .ref S], []⟩) R s := by
  have nw : S ∉ wr := fun z => hS (W.sub _ z)
  intro m
  induction m with
  | zero =>
    rintro j s x c hj st tt px hs hR
    have ej : j + 1 = n := by omega
    (refine codeAny_builtin F.entry_min_loop ?_; rw [Around.under_plainId F.plain_min_loop _])
    (show wpAny _ A.in1 (seqItems? (.ref S) >>= _) _ _ s; refine wpAny_bind (wpAny_seqItems hs rfl ?_))
    show wpAny _ A.in1 (tryCatch (pyNext (.ref it)) _ >>= _) _ _ s
    refine wpAny_bind (wpAny_tryCatch (W.done s _ _ (ej ▸ st) ?_))
    intro h' tk kp
    have hs2 := kp S _ nw hs
    (show wpAny _ A.in1 (updateSeq S (fun _ => #[]) >>= _) _ _ _; refine wpAny_bind ?_)
    refine wpAny_updateSeq hs2 rfl ?_
    refine wpAny_bind (wpAny_letGo (wpAny_pure ?_))
    refine hR x _ tk (by rw [← ej]; exact px) ?_
    intro b o hb e
    have hb1 : b ≠ S := fun z => hb (by simp [z])
    exact (Heap.get?_update_other _ _ (Ne.symm hb1)).trans (kp b o (fun z => hb (List.mem_cons_of_mem _ z)) e)
  | succ m ih =>
    rintro j s x c hj st tt px hs hR
    (refine codeAny_builtin F.entry_min_loop ?_; rw [Around.under_plainId F.plain_min_loop _])
    (show wpAny _ A.in1 (seqItems? (.ref S) >>= _) _ _ s; refine wpAny_bind (wpAny_seqItems hs rfl ?_))
    show wpAny _ A.in1 (tryCatch (pyNext (.ref it)) _ >>= _) _ _ s
    refine wpAny_bind (wpAny_tryCatch (W.item (j + 1) s _ _ (by omega) st ?_))
    intro y h' tk py st' kp
    have hs2 := kp S _ nw hs
    have tt' : T h' := C.keep _ _ tt fun b o hb e => kp b o (fun z => hb (List.mem_cons_of_mem _ z)) e
    show wpAny _ A.in1 (tryCatch (holding [y, y] (richCompare .Lt y x >>= _)) _ >>= _) _ _ _
    refine wpAny_bind (wpAny_tryCatch (wpAny_holding (wpAny_bind ?_)))
    refine C.cmp (j + 1) (argBest bt j) y x _ _ _ tt' py px ?_
    (refine wpAny_bind (wpAny_holding (wpAny_truthy_bool ?_)); refine wpAny_bind (wpAny_letGo (wpAny_pure ?_)))
    cases hb : bt (j + 1) (argBest bt j) with
    | false =>
      (simp only [Bool.false_eq_true, if_false]; refine wpAny_bind (wpAny_letGo ?_))
      rw [mnp_name]
      refine wpAny_pure ⟨plainId_quiet F.plain_min_loop _, ?_⟩
      refine ih (j + 1) _ x c (by omega) st' tt' (by simp only [argBest, hb, Bool.false_eq_true, if_false]; exact px) hs2 ?_
      intro z h2 tk2 pz kp2
      exact hR z h2 tk2 pz fun b o hb e => kp2 b o hb (kp b o (fun q => hb (List.mem_cons_of_mem _ q)) e)
    | true =>
      simp only [if_true]
      refine wpAny_bind ?_
      refine wpAny_updateSeq hs2 rfl ?_
      refine wpAny_bind (wpAny_letGo ?_)
      rw [mnp_name]
      have oth : ∀ (f : Obj → Obj) b o, b ≠ S → h'.get? b = some o → (h'.update S f).get? b = some o := fun f b o hb e => (Heap.get?_update_other _ _ (Ne.symm hb)).trans e
      refine wpAny_pure ⟨plainId_quiet F.plain_min_loop _, ?_⟩
      refine ih (j + 1) _ y _ (by omega) (W.frame _ _ _ st' fun b hbf o e => oth _ b o (fun z => hS (z ▸ hbf)) e) (C.keep _ _ tt' fun b o hb e => oth _ b o (fun z => hb (by simp [z])) e) (by simp only [argBest, hb, if_true]; exact py) (Heap.get?_update_self _ hs2 rfl) ?_
      intro z h2 tk2 pz kp2
      exact hR z h2 tk2 pz fun b o hb e => kp2 b o hb (oth _ b o (fun q => hb (by simp [q])) (kp b o (fun q => hb (List.mem_cons_of_mem _ q)) e))
theorem mnp_first (W : Walks prog w A.in1 it fp wr n P St) (C : CmpIn prog w A.in1 P bt (S :: wr) T) (hS : S ∉ fp) (hn : 0 < n) {s : Shared} {c : Nat} (st : St 0 s.heap) (tt : T s.heap) (hs : s.heap.get? S = some { cls := .type "list", dict := none, data := .seq #[] c, slots := #[] })
    (hR : ∀ y h' tk, P (argBest bt (n - 1)) y → (∀ b o, b ∉ S :: wr → s.heap.get? b = some o → h'.get? b = some o) → R (.ok (.ret y)) { s with heap := h', toks := tk }) : codeAny (model prog w) A (.builtin "min.loop" ⟨[.ref it, .none, .ref S], []⟩) R s := by
  have nw : S ∉ wr := fun z => hS (W.sub _ z)
  (refine codeAny_builtin F.entry_min_loop ?_; rw [Around.under_plainId F.plain_min_loop _])
  (show wpAny _ A.in1 (seqItems? (.ref S) >>= _) _ _ s; refine wpAny_bind (wpAny_seqItems hs rfl ?_))
  show wpAny _ A.in1 (tryCatch (pyNext (.ref it)) _ >>= _) _ _ s
  refine wpAny_bind (wpAny_tryCatch (W.item 0 s _ _ hn st ?_))
  intro y h' tk py st' kp
  have hs2 := kp S _ nw hs
  have tt' : T h' := C.keep _ _ tt fun b o hb e => kp b o (fun z => hb (List.mem_cons_of_mem _ z)) e
  have oth : ∀ (f : Obj → Obj) b o, b ≠ S → h'.get? b = some o → (h'.update S f).get? b = some o := fun f b o hb e => (Heap.get?_update_other _ _ (Ne.symm hb)).trans e
  show wpAny _ A.in1 (updateSeq S (fun _ => #[y, y]) >>= _) _ _ _
  refine wpAny_bind ?_
  refine wpAny_updateSeq hs2 rfl ?_
  rw [mnp_name]
  refine wpAny_pure ⟨plainId_quiet F.plain_min_loop _, ?_⟩
  refine mnp_loop W C hS (n - 1) 0 _ y _ (by omega) (W.frame _ _ _ st' fun b hbf o e => oth _ b o (fun z => hS (z ▸ hbf)) e) (C.keep _ _ tt' fun b o hb e => oth _ b o (fun z => hb (by simp [z])) e) py (Heap.get?_update_self _ hs2 rfl) ?_
  intro z h2 tk2 pz kp2
  exact hR z h2 tk2 pz fun b o hb e => kp2 b o hb (oth _ b o (fun q => hb (by simp [q])) (kp b o (fun q => hb (List.mem_cons_of_mem _ q)) e))
end
theorem lex_irr : ∀ a : List Int, HT.lexLt a a = false
  | [] => rfl
  | x :: a => by rw [HT.lexLt_cons, if_pos rfl]; exact lex_irr a
theorem lex_tr : ∀ {a b c : List Int}, HT.lexLt a b = true → HT.lexLt b c = true → HT.lexLt a c = true
  | [], [], _, h, _ => by rw [HT.lexLt_nil_nil] at h; cases h
  | [], y :: b, [], _, h => by rw [HT.lexLt_cons_nil] at h; cases h
  | [], y :: b, z :: c, _, _ => rfl
  | x :: a, [], _, h, _ => by rw [HT.lexLt_cons_nil] at h; cases h
  | x :: a, y :: b, [], _, h => by rw [HT.lexLt_cons_nil] at h; cases h
  | x :: a, y :: b, z :: c, h1, h2 => by
    rw [HT.lexLt_cons] at h1 h2 ⊢
    split at h1
    · rename_i e
      subst e
      split at h2
      · rename_i e
        subst e
        rw [if_pos rfl]
        exact lex_tr h1 h2
      · rename_i e
        rw [if_neg e]; exact h2
    · rename_i e
      split at h2
      · rename_i e2
        subst e2
        rw [if_neg e]; exact h1
      · have a1 := of_decide_eq_true h1
        have a2 := of_decide_eq_true h2
        rw [if_neg (by omega)]
        exact decide_eq_true (by omega)
theorem best_lex (f : Nat → List Int) : ∀ k, argBest (fun i j => HT.lexLt (f i) (f j)) k ≤ k ∧ ∀ j, j ≤ k → HT.lexLt (f j) (f (argBest (fun i j => HT.lexLt (f i) (f j)) k)) = false
  | 0 => ⟨Nat.le_refl _, fun j hj => by have : j = 0 := by omega
                                        subst this; exact lex_irr _⟩
  | k + 1 => by
    obtain ⟨i1, i2⟩ := best_lex f k
    rw [argBest]
    split
    · rename_i h
      refine ⟨Nat.le_refl _, fun j hj => ?_⟩
      by_cases e : j = k + 1
      · subst e; exact lex_irr _
      · cases q : HT.lexLt (f j) (f (k + 1)) with
        | false => rfl
        | true =>
          have := lex_tr q h
          rw [i2 j (by omega)] at this; cases this
    · rename_i h
      refine ⟨by omega, fun j hj => ?_⟩
      by_cases e : j = k + 1
      · subst e; simpa using h
      · exact i2 j (by omega)
section
variable {X : Cx}
/-- min of a list of tuples of ints -/
theorem call_minP (hc : X.calm = true) (hu : X.A.units + 1 < cLine) : CallR X (.builtin "min") (fun xs H Q => ∃ (p : Addr) (tp : List (Addr × List Int)), xs = [.ref p] ∧ SqL X.K H p (tp.map fun t => V.ref t.1) ∧ (∀ t ∈ tp, SqT X.K H t.1 (t.2.map V.int)) ∧ 0 < tp.length ∧
    ∀ t ∈ tp, (∀ u ∈ tp, HT.lexLt u.2 t.2 = false) → Q (.ref t.1) H) := by
  intro pins s σ H xs us Q I r h
  obtain ⟨p, tp, rfl, hq, ht, hne, q⟩ := h
  obtain ⟨u, rfl, rx⟩ := vals1 r
  cases rx
  obtain ⟨its, r', pl, hz⟩ := I.list hq
  have hlen := r'.length
  rw [List.length_map] at hlen
  have hit : ∀ i x, its[i]? = some x → ∃ t ∈ tp, tp[i]? = some t ∧ x = Value.ref t.1 := fun i x e => by
    have hi : i < its.length := (List.getElem?_eq_some_iff.mp e).1
    have e1 : (tp.map fun t => V.ref t.1)[i]? = some (V.ref (tp[i]'(by omega)).1) := by rw [List.getElem?_map, List.getElem?_eq_getElem (by omega)]; rfl
    obtain ⟨y, ey, ry⟩ := r'.get e1
    rw [e] at ey; cases ey
    exact ⟨tp[i]'(by omega), List.getElem_mem _, List.getElem?_eq_getElem _, ry⟩
  have hlp : p < s.heap.objs.size := by obtain ⟨o, e, _⟩ := pl.isList; exact Heap.lt_size e
  (refine call_function_tree F.kind_min F.plain_min F.entry_min (F.args_min1 _) ?_; show wpAny _ X.A.in1 (Builtin.Builtins.bindParams "min" ["key", "default"] 0 ⟨[], []⟩ >>= _) _ _ s)
  (refine wpAny_bind (wpAny_of_eq (show Builtin.Builtins.bindParams "min" ["key", "default"] 0 ⟨[], []⟩ = pure [none, none] from rfl) ?_); refine wpAny_bind (wpAny_pure ?_))
  refine wpAny_bind (wpAny_pyIter_list pl.isList ?_)
  (refine wpAny_bind (wpAny_newObj_type ?_); rw [mnp_name])
  obtain ⟨f, hf⟩ : ∃ f : Nat → List Int, f = fun i => ((tp[i]?).map (·.2)).getD [] := ⟨_, rfl⟩
  have tkeep : ∀ {h' : Heap}, (∀ b o, s.heap.get? b = some o → h'.get? b = some o) → ∀ t ∈ tp, ∃ vs : List Value, IsTup h' t.1 vs.toArray ∧ IntsAre vs t.2 := fun {h'} kp t htm => by
    obtain ⟨vs, rv, ⟨o, e, c, n, d⟩, _⟩ := I.tuple (ht t htm)
    exact ⟨vs, ⟨o, kp _ _ e, c, n, d⟩, intsAre_of rv⟩
  have tlt : ∀ t ∈ tp, t.1 < s.heap.objs.size := fun t htm => by
    obtain ⟨vs, rv, ⟨o, e, c, n, d⟩, _⟩ := I.tuple (ht t htm)
    exact Heap.lt_size e
  have hh : X.A.handled = none := I.ok.hd hc
  have W := Walks.list (prog := X.prog) (w := X.w) (A := X.A.in1) hh s.heap.objs.size p (Nat.ne_of_lt hlp) its.toArray
  have s1 : (s.heap.push { cls := Value.type "list_iterator", data := Data.fields #[Value.ref p, Value.int 0 0] }).objs.size = s.heap.objs.size + 1 := Heap.size_push _ _
  have pat : ∀ i x, its.toArray[i]? = some x → ∃ t ∈ tp, x = Value.ref t.1 ∧ f i = t.2 := fun i x e => by
    rw [List.getElem?_toArray] at e
    obtain ⟨t, htm, e1, e2⟩ := hit i x e
    exact ⟨t, htm, e2, by rw [hf]; show ((tp[i]?).map (·.2)).getD [] = _; rw [e1]; rfl⟩
  have C : CmpIn X.prog X.w X.A.in1 (fun i v => its.toArray[i]? = some v) (fun i j => HT.lexLt (f i) (f j)) [s.heap.objs.size + 1, s.heap.objs.size] (fun h' => ∀ t ∈ tp, ∃ vs : List Value, IsTup h' t.1 vs.toArray ∧ IntsAre vs t.2) := by
    refine ⟨fun h1 h2 tt kp t htm => ?_, fun i j x y s' Q' E' tt px py q' => ?_⟩
    · obtain ⟨vs, ⟨o, e, c, n, d⟩, iv⟩ := tt t htm
      have := tlt t htm
      exact ⟨vs, ⟨o, kp _ _ (fun z => by
        rcases List.mem_cons.mp z with z | z
        · exact Nat.ne_of_lt (Nat.lt_succ_of_lt this) z
        · exact Nat.ne_of_lt this (by simpa using z)) e, c, n, d⟩, iv⟩
    · obtain ⟨t1, m1, rfl, f1⟩ := pat i x px
      obtain ⟨t2, m2, rfl, f2⟩ := pat j y py
      obtain ⟨vs1, p1, i1⟩ := tt t1 m1
      obtain ⟨vs2, p2, i2⟩ := tt t2 m2
      show wpAny _ X.A.in1 (compareOp .Lt (.ref t1.1) (.ref t2.1)) Q' E' s'
      refine HT.lt_tupInts p1 p2 (by simpa using i1) (by simpa using i2) (show X.A.units + 1 < cLine from hu) ?_
      have q' : Q' (.bool (HT.lexLt (f i) (f j))) s' := q'
      rw [f1, f2] at q'
      exact q'
  refine wpAny_pure ⟨plainId_quiet F.plain_min_loop _, ?_⟩
  have nS : (s.heap.push { cls := Value.type "list_iterator", data := Data.fields #[Value.ref p, Value.int 0 0] }).objs.size ∉ [s.heap.objs.size, p] := fun z => by
    rw [s1] at z
    rcases List.mem_cons.mp z with z | z
    · exact Nat.succ_ne_self _ z
    · have z : s.heap.objs.size + 1 = p := by simpa using z
      exact Nat.ne_of_lt (Nat.lt_succ_of_lt hlp) z.symm
  have kp0 : ∀ b o, s.heap.get? b = some o → ((s.heap.push { cls := Value.type "list_iterator", data := Data.fields #[Value.ref p, Value.int 0 0] }).push { cls := Value.type "list", data := Data.seq #[] }).get? b = some o := fun b o e => Heap.get?_push_of_some _ (Heap.get?_push_of_some _ e)
  refine mnp_first (n := its.toArray.size) W (by rw [s1]; exact C) nS (by simp; omega) ?_ (tkeep kp0) (Heap.get?_push_size _ rfl) ?_
  · exact W.frame 0 _ _ ⟨⟨_, Heap.get?_push_size _ rfl, rfl, rfl⟩, pl.isList.push _⟩ fun b _ o e => Heap.get?_push_of_some _ e
  · intro y h' tk py kp
    obtain ⟨t, htm, rfl, ft⟩ := pat _ y py
    have kp1 : ∀ b o, s.heap.get? b = some o → h'.get? b = some o := fun b o e => kp b o (fun z => by
      rw [s1] at z
      have := Heap.lt_size e
      rcases List.mem_cons.mp z with z | z
      · exact Nat.ne_of_lt (Nat.lt_succ_of_lt this) z
      · exact Nat.ne_of_lt this (by simpa using z)) (kp0 b o e)
    refine ⟨.ref t.1, H, I.kept kp1, rfl, q t htm fun u hum => ?_⟩
    obtain ⟨j, hj, ej⟩ := List.mem_iff_getElem.mp hum
    have fj : f j = u.2 := by rw [hf]; show ((tp[j]?).map (·.2)).getD [] = _; rw [List.getElem?_eq_getElem hj, ej]; rfl
    have := (best_lex f (its.toArray.size - 1)).2 j (by simp; omega)
    rw [ft, fj] at this
    exact this
end
end L2
namespace L3
open PySem PySem.Spec PyProof.Rows L2
section
variable {X : Cx} {K : PySem.W.Frag}
/-- min of a list of tuples of ints -/
@[reducible] def xMinP : C3 := fun ds G q => ∃ (a : Addr) (ts : List (List Int)), ds = [.ref a] ∧ seqOf (G a) = some (ts.map fun t => .tup (t.map .int)) ∧ 0 < ts.length ∧ ∀ t ∈ ts, (∀ u ∈ ts, HT.lexLt u t = false) → q (.tup (t.map .int)) G
theorem ints_inv {H : Hp} : ∀ {ns : List Int} {xs : List V}, RelDs K H (ns.map D.int) xs → xs = ns.map V.int
  | [], xs, r => r.inv_nil
  | n :: ns, xs, r => by
    obtain ⟨x, xs', rfl, h1, h2⟩ := r.inv_cons
    rw [h1.int_inv, ints_inv h2]; rfl
theorem rel_intq {H : Hp} : ∀ ns : List Int, RelDs K H (ns.map D.int) (ns.map V.int)
  | [] => .nil
  | _ :: ns => .cons RelD.intI (rel_intq ns)
theorem tups_inv {H : Hp} : ∀ {ts : List (List Int)} {xs : List V}, RelDs K H (ts.map fun t => D.tup (t.map .int)) xs → ∃ tp : List (Addr × List Int), tp.map (·.2) = ts ∧ xs = tp.map (fun t => V.ref t.1) ∧ ∀ t ∈ tp, SqT K H t.1 (t.2.map V.int)
  | [], xs, r => ⟨[], rfl, r.inv_nil, fun t h => by simp at h⟩
  | t :: ts, xs, r => by
    obtain ⟨x, xs', rfl, h1, h2⟩ := r.inv_cons
    obtain ⟨a, ys, rfl, s1, q1⟩ := h1.tup_inv
    obtain rfl := ints_inv q1
    obtain ⟨tp, e1, rfl, e3⟩ := tups_inv h2
    refine ⟨(a, t) :: tp, by rw [List.map_cons, e1], rfl, fun u hu => ?_⟩
    rcases List.mem_cons.mp hu with e | hu
    · subst e; exact s1
    · exact e3 u hu
theorem x_minP {k : Nat} (hr : Room k X.A) (hc : X.calm = true := by rfl) : Call3 X (.builtin "min") xMinP := weakCall (call_minP hc (hu_of hr)) <| by
  rintro xs H Q ⟨ds, G, q, r, c, t, f⟩
  obtain ⟨a, ts, rfl, hs, hl, t⟩ := t
  obtain ⟨v, rfl, r1⟩ := r.one
  cases r1.ref_inv
  obtain ⟨ys, s1, q1⟩ := sql_of c hs
  obtain ⟨tp, e1, rfl, e3⟩ := tups_inv q1
  refine ⟨a, tp, rfl, s1, e3, by rw [← e1, List.length_map] at hl; exact hl, fun u hu hm => ?_⟩
  have hu' : u.2 ∈ ts := by rw [← e1]; exact List.mem_map.mpr ⟨u, hu, rfl⟩
  refine f (.tup (u.2.map .int)) G (.ref u.1) H ?_ c (Le.refl H) (t u.2 hu' fun w hw => ?_)
  · rw [RelD]
    exact ⟨u.1, _, rfl, e3 u hu, rel_intq u.2⟩
  · rw [← e1] at hw
    obtain ⟨z, hz, rfl⟩ := List.mem_map.mp hw
    exact hm z hz
end
end L3

namespace L2
open PySem PySem.Spec PyProof.Rows
noncomputable def tListRng (ta : TA) : TE := fun σ H Q => ta σ H fun vs H1 => ∃ i j : Int, vs = [.int i, .int j] ∧ (-1000000 ≤ i ∧ i ≤ 1000000 ∧ -1000000 ≤ j ∧ j ≤ 1000000) ∧ ∀ l, H1 l = none → Q (.ref l) (upd H1 l (.lst ((List.range (j - i).toNat).map fun k : Nat => V.int (i + k))))
theorem boot_lst : bootBuiltins "list" = some (.type "list") := by decide +kernel
theorem pe_listRng {X : Cx} {a b : Expr} {ta : TA} {p p2 pos pos2 : Pos} {k : Nat} (hr : Room k X.A) (hg : Gl X "range") (hm : X.mg "range" = none) (hg2 : Gl X "list") (hm2 : X.mg "list" = none) (ha : PA X [a, b] ta)
    (hs : starEach [a, b] X.env = [(false, eval a X.env), (false, eval b X.env)] := by rfl) (hs1 : starEach [b] X.env = [(false, eval b X.env)] := by rfl)
    (hs2 : starEach [.Call (.Name "range" p) [a, b] [] pos] X.env = [(false, eval (.Call (.Name "range" p) [a, b] [] pos) X.env)] := by rfl) :
    PE X (.Call (.Name "list" p2) [.Call (.Name "range" p) [a, b] [] pos] [] pos2) (tListRng ta) := by
  intro pins s σ H Q I h
  refine wpAny_Call_Name_kw (ld_blt I hg2 hm2 boot_lst ?_)
  refine PyProof.Rows.callWith_type1 ?_ hs2 rfl
  rw [hs2]
  show wpAny _ _ (spliced ((false, eval (.Call (.Name "range" p) [a, b] [] pos) X.env) :: backTo pos2 [])) _ _ s
  refine Calls.spliced_cons ?_
  refine wpAny_Call_Name_kw (ld_blt I hg hm boot_range (PyProof.Rows.callWith_type1 (thn (ha pos pins s σ H _ I h) fun us s1 ⟨vs, H1, I1, r1, q1⟩ => ?_) (by rw [hs, hs1]) (by rw [hs1]; rfl)))
  obtain ⟨i, j, e, ⟨b1, b2, b3, b4⟩, q⟩ := q1
  subst e
  cases r1 with
  | cons r rr =>
    cases rr with
    | cons r2 rr =>
      cases rr
      obtain ⟨t, rfl⟩ := r
      obtain ⟨t2, rfl⟩ := r2
      refine call_range_2 ?_
      refine Calls.spliced_nil ?_
      have hn : Builtin.Range.rangeSize i j 1 = (((j - i).toNat : Nat) : Int) := by rw [rangeSize_one]; split <;> omega
      refine call_list_range (hh := hr.hd) (IsRange.new ..) (small_one (by omega) (by omega) (by omega) (by omega)) hn (by omega) fun h' tk acc c kp hnew hit => ?_
      have kp' : ∀ b o, s1.heap.get? b = some o → h'.get? b = some o := fun b o e => kp b o (Heap.get?_push_of_some _ e)
      have hv : Vals ((List.range (j - i).toNat).map fun k : Nat => V.int (i + k)) acc.toList := by
        have hz : acc.size = (j - i).toNat := hit.1
        have key : ∀ (m : Nat) (l : List Value), (∀ (y : Nat) v, l[y]? = some v → ∃ t, v = .int (i + (y : Int)) t) → l.length = m → Vals ((List.range m).map fun k : Nat => V.int (i + k)) l := by
          intro m
          induction m with
          | zero => intro l _ hl; have : l = [] := List.eq_nil_of_length_eq_zero hl; subst this; exact .nil
          | succ m ih =>
            intro l hl hz
            rcases List.eq_nil_or_concat l with e | ⟨l', v, e⟩
            · subst e; simp at hz
            · rw [List.concat_eq_append] at e
              subst e
              have hz' : l'.length = m := by simpa using hz
              rw [List.range_succ, List.map_append]
              refine (ih l' (fun y v e => hl y v ?_) hz').append (.cons ?_ .nil)
              · rw [List.getElem?_append_left (List.getElem?_eq_some_iff.mp e).1]; exact e
              · obtain ⟨t, e⟩ := hl m v (by rw [← hz']; simp)
                exact ⟨t, e⟩
        refine key _ acc.toList (fun y v e => ?_) (by simpa using hz)
        obtain ⟨t, e⟩ := hit.2 y v (by simpa using e)
        exact ⟨t, by rw [e, Int.mul_one]⟩
      have hll : ((List.range (j - i).toNat).map fun k : Nat => V.int (i + k)).length ≤ sizeLine := by
        rw [List.length_map, List.length_range]
        exact Nat.le_of_lt (Nat.lt_of_le_of_lt (m := 3000000) (by omega) (by decide))
      have I2 := I1.laid (h' := h') (a := s1.heap.objs.size + 1) (o := .lst ((List.range (j - i).toNat).map fun k : Nat => V.int (i + k))) (t' := tk) kp' (Nat.le_succ _) ⟨hll, acc.toList, c, hv, by simpa using hnew⟩
      exact ⟨_, _, I2, by simp; rfl, q _ (I1.hok.fresh (Nat.le_succ _))⟩
end L2
namespace L3
open PySem PySem.Spec PyProof.Rows L2
noncomputable def dListRng (t : TA3) : TE3 := fun σ G q => t σ G fun ds G1 => match ds with
  | [.int i, .int j] => (-1000000 ≤ i ∧ i ≤ 1000000 ∧ -1000000 ≤ j ∧ j ≤ 1000000) ∧ ∀ p, G1 p = none → q (.ref p) (gup G1 p (.lst (rngD i (j - i).toNat)))
  | _ => False
theorem rel_rng {K : PySem.W.Frag} {H : Hp} {i : Int} : ∀ l : List Nat, RelDs K H (l.map fun k : Nat => D.int (i + k)) (l.map fun k : Nat => V.int (i + k))
  | [] => .nil
  | _ :: l => .cons RelD.intI (rel_rng l)
theorem low_listRng {K : PySem.W.Frag} {t : TA3} {σ : L2.St} {H : Hp} {Q : VK} (h : lowE K (dListRng t) σ H Q) : tListRng (lowA K t) σ H Q := by
  obtain ⟨σd, G, q, rs, c, t, f⟩ := h
  refine ⟨σd, G, _, rs, c, t, fun ds G1 vs H1 r1 c1 l1 t1 => ?_⟩
  split at t1
  · rename_i i j
    obtain ⟨x, y, rfl, x1, x2⟩ := r1.two
    cases x1.int_inv
    cases x2.int_inv
    exact ⟨i, j, rfl, t1.1, fun p hp => f _ _ _ _ RelD.refI (c1.lstNew hp (rel_rng _)) (l1.trans (Le.fresh hp)) (t1.2 p (c1.fresh hp))⟩
  · exact t1.elim
theorem e_listRng {X : Cx} {a b : Expr} {ts : TA3} {p p2 pos pos2 : Pos} {k : Nat} (hr : Room k X.A) (hg : Gl X "range") (hm : X.mg "range" = none) (hg2 : Gl X "list") (hm2 : X.mg "list" = none) (ha : A3 X [a, b] ts)
    (hs : starEach [a, b] X.env = [(false, eval a X.env), (false, eval b X.env)] := by rfl) (hs1 : starEach [b] X.env = [(false, eval b X.env)] := by rfl)
    (hs2 : starEach [.Call (.Name "range" p) [a, b] [] pos] X.env = [(false, eval (.Call (.Name "range" p) [a, b] [] pos) X.env)] := by rfl) :
    E3 X (.Call (.Name "list" p2) [.Call (.Name "range" p) [a, b] [] pos] [] pos2) (dListRng ts) := weakE (pe_listRng hr hg hm hg2 hm2 ha hs hs1 hs2) fun _ _ _ => low_listRng
end L3

namespace L3
open PySem PySem.Spec PyProof.Rows L2 Rw
noncomputable def k3 (p b e : Nat) : List Key := [.inl (p : Int), .inl (b : Int), .inl (e : Int)]
noncomputable def k2 (p b : Nat) : List Key := [.inl (p : Int), .inl (b : Int)]
theorem k3_inj {p b e p' b' e' : Nat} (h : k3 p b e = k3 p' b' e') : p = p' ∧ b = b' ∧ e = e' := by
  unfold k3 at h
  simp at h
  omega
theorem k2_inj {p b p' b' : Nat} (h : k2 p b = k2 p' b') : p = p' ∧ b = b' := by
  unfold k2 at h
  simp at h
  omega
theorem find_app {kvs : List (List Key × D)} {k k' : List Key} {v : D} (hn : (kvs.any fun kv => decide (kv.1 = k)) = false) : valD (kvs ++ [(k, v)]) k' = if k' = k then some v else valD kvs k' := by
  induction kvs with
  | nil =>
    by_cases h : k' = k
    · subst h; simp [valD]
    · rw [if_neg h]
      have : ¬ k = k' := fun z => h z.symm
      simp [valD, this]
  | cons q r ih =>
    rw [List.any_cons, Bool.or_eq_false_iff] at hn
    have hq : ¬ q.1 = k := of_decide_eq_false hn.1
    have ih := ih hn.2
    by_cases h1 : q.1 = k'
    · have h2 : ¬ k' = k := fun z => hq (h1.trans z)
      rw [if_neg h2]
      simp [valD, List.find?_cons, h1]
    · have e1 : valD (q :: r ++ [(k, v)]) k' = valD (r ++ [(k, v)]) k' := by simp [valD, List.find?_cons, h1]
      have e2 : valD (q :: r) k' = valD r k' := by simp [valD, List.find?_cons, h1]
      rw [e1, e2, ih]
theorem valD_none {kvs : List (List Key × D)} {k : List Key} (h : valD kvs k = none) : (kvs.any fun kv => decide (kv.1 = k)) = false := by
  unfold valD at h
  rw [Option.map_eq_none_iff] at h
  rw [List.any_eq_false]
  intro x hx
  have := List.find?_eq_none.mp h x hx
  simpa using this
theorem val_put {kvs : List (List Key × D)} {k k' : List Key} {v : D} (h : valD kvs k = none) : valD (putT kvs k v) k' = if k' = k then some v else valD kvs k' := by
  have hn := valD_none h
  unfold putT
  rw [if_neg (by rw [hn]; decide)]
  exact find_app hn
theorem len_put {kvs : List (List Key × D)} {k : List Key} {v : D} (h : valD kvs k = none) : (putT kvs k v).length = kvs.length + 1 := by
  have hn := valD_none h
  unfold putT
  rw [if_neg (by rw [hn]; decide)]
  simp
/-- where a part may end -/
noncomputable def mA (p b e m : Nat) : Prop := if e - b = 1 then m = e else 2 ≤ p ∧ b < m ∧ m < e ∧ m - b ≤ cap (p - 1) true ∧ e - m ≤ cap (p - 1) true
noncomputable def mR (n p b m : Nat) : Prop := if n - b = 1 then m = n else 2 ≤ p ∧ b < m ∧ m < n ∧ m - b ≤ cap p true ∧ n - m ≤ cap (p - 1) false
noncomputable def vD (w : Int) (m : Nat) : D := .tup [.int w, .int (m : Int)]
/-- a table that has just the keys in Dm -/
noncomputable def TA (Dm : Nat → Nat → Nat → Prop) (kvs : List (List Key × D)) : Prop := ∀ p b e, (Dm p b e → ∃ w m, valD kvs (k3 p b e) = some (vD w m) ∧ mA p b e m) ∧ (¬ Dm p b e → valD kvs (k3 p b e) = none)
noncomputable def TR (n : Nat) (Dm : Nat → Nat → Prop) (kvs : List (List Key × D)) : Prop := ∀ p b, (Dm p b → ∃ w m, valD kvs (k2 p b) = some (vD w m) ∧ mR n p b m) ∧ (¬ Dm p b → valD kvs (k2 p b) = none)
noncomputable def inA (n s p b e : Nat) : Prop := 1 ≤ p ∧ p ≤ s ∧ b < e ∧ e ≤ n ∧ e - b ≤ cap p true
noncomputable def inR (n s p b : Nat) : Prop := 1 ≤ p ∧ p ≤ s ∧ b < n ∧ n - b ≤ cap p false
/-- the keys laid so far: P places, parts of M, begins below B -/
noncomputable def upA (n P M B p b e : Nat) : Prop := inA n P p b e ∧ (p < P ∨ e - b < M ∨ (e - b = M ∧ b < B))
noncomputable def upR (n P M p b : Nat) : Prop := inR n P p b ∧ (p < P ∨ n - b < M)
theorem TA.congr {D1 D2 : Nat → Nat → Nat → Prop} {kvs : List (List Key × D)} (h : TA D1 kvs) (e : ∀ p b e, D1 p b e ↔ D2 p b e) : TA D2 kvs := fun p b e' => ⟨fun z => (h p b e').1 ((e p b e').mpr z), fun z => (h p b e').2 fun q => z ((e p b e').mp q)⟩
theorem TR.congr {n : Nat} {D1 D2 : Nat → Nat → Prop} {kvs : List (List Key × D)} (h : TR n D1 kvs) (e : ∀ p b, D1 p b ↔ D2 p b) : TR n D2 kvs := fun p b => ⟨fun z => (h p b).1 ((e p b).mpr z), fun z => (h p b).2 fun q => z ((e p b).mp q)⟩
theorem TA.put {Dm : Nat → Nat → Nat → Prop} {kvs : List (List Key × D)} {p b e m : Nat} {w : Int} (h : TA Dm kvs) (hn : ¬ Dm p b e) (hm : mA p b e m) : TA (fun p' b' e' => Dm p' b' e' ∨ (p' = p ∧ b' = b ∧ e' = e)) (putT kvs (k3 p b e) (vD w m)) := by
  intro p' b' e'
  rw [val_put ((h p b e).2 hn)]
  by_cases hk : k3 p' b' e' = k3 p b e
  · obtain ⟨rfl, rfl, rfl⟩ := k3_inj hk
    rw [if_pos rfl]
    exact ⟨fun _ => ⟨w, m, rfl, hm⟩, fun z => absurd (.inr ⟨rfl, rfl, rfl⟩) z⟩
  · rw [if_neg hk]
    refine ⟨fun z => (h p' b' e').1 (z.resolve_right fun q => hk ?_), fun z => (h p' b' e').2 fun q => z (.inl q)⟩
    obtain ⟨rfl, rfl, rfl⟩ := q
    rfl
theorem TR.put {n : Nat} {Dm : Nat → Nat → Prop} {kvs : List (List Key × D)} {p b m : Nat} {w : Int} (h : TR n Dm kvs) (hn : ¬ Dm p b) (hm : mR n p b m) : TR n (fun p' b' => Dm p' b' ∨ (p' = p ∧ b' = b)) (putT kvs (k2 p b) (vD w m)) := by
  intro p' b'
  rw [val_put ((h p b).2 hn)]
  by_cases hk : k2 p' b' = k2 p b
  · obtain ⟨rfl, rfl⟩ := k2_inj hk
    rw [if_pos rfl]
    exact ⟨fun _ => ⟨w, m, rfl, hm⟩, fun z => absurd (.inr ⟨rfl, rfl⟩) z⟩
  · rw [if_neg hk]
    refine ⟨fun z => (h p' b').1 (z.resolve_right fun q => hk ?_), fun z => (h p' b').2 fun q => z (.inl q)⟩
    obtain ⟨rfl, rfl⟩ := q
    rfl
theorem cap_two {p : Nat} (h : 2 ≤ p) : cap p true = 2 * cap (p - 1) true ∧ cap p false = cap p true + cap (p - 1) false := by
  obtain ⟨q, rfl⟩ : ∃ q, p = q + 2 := ⟨p - 2, by omega⟩
  have := Nat.two_pow_pos q
  show 2 ^ (q + 1) = 2 * 2 ^ q ∧ 2 ^ (q + 2) - 1 = 2 ^ (q + 1) + (2 ^ (q + 1) - 1)
  rw [Nat.pow_succ, Nat.pow_succ, Nat.pow_succ]
  omega
theorem cap_one {b : Bool} : cap 1 b = 1 := by cases b <;> rfl
theorem pow_lem {a c : Nat} (ha : 1 ≤ a) (hc : 1 ≤ c) : 2 * 2 ^ a + 2 ^ c ≤ 2 ^ (a + c) + 2 := by
  obtain ⟨x, rfl⟩ : ∃ x, a = x + 1 := ⟨a - 1, by omega⟩
  obtain ⟨y, rfl⟩ : ∃ y, c = y + 1 := ⟨c - 1, by omega⟩
  have e : 2 ^ (x + 1 + (y + 1)) = 4 * (2 ^ x * 2 ^ y) := by
    rw [show x + 1 + (y + 1) = (x + y) + 1 + 1 by omega, Nat.pow_succ, Nat.pow_succ, Nat.pow_add]; omega
  rw [e, Nat.pow_succ, Nat.pow_succ]
  have h1 := Nat.two_pow_pos x
  have h2 := Nat.two_pow_pos y
  obtain ⟨u, hu⟩ : ∃ u, 2 ^ x = u + 1 := ⟨2 ^ x - 1, by omega⟩
  obtain ⟨v, hv⟩ : ∃ v, 2 ^ y = v + 1 := ⟨2 ^ y - 1, by omega⟩
  have e3 : (u + 1) * (v + 1) = u * v + u + v + 1 := by rw [Nat.add_mul, Nat.mul_add]; omega
  rw [hu, hv, e3]
  omega
theorem upA_next {n P M B p b e : Nat} : upA n P M (B + 1) p b e ↔ upA n P M B p b e ∨ (p = P ∧ b = B ∧ e = B + M ∧ inA n P P B (B + M)) := by
  unfold upA inA
  constructor
  · rintro ⟨h1, h2⟩
    by_cases h : p < P ∨ e - b < M ∨ (e - b = M ∧ b < B)
    · exact .inl ⟨h1, h⟩
    · right
      have e1 : p = P := by omega
      have e2 : b = B := by omega
      have e3 : e = B + M := by omega
      subst e1; subst e2; subst e3
      exact ⟨rfl, rfl, rfl, h1⟩
  · rintro (⟨h1, h2⟩ | ⟨rfl, rfl, rfl, h⟩)
    · exact ⟨h1, by omega⟩
    · refine ⟨h, ?_⟩
      have : b + M - b = M := by omega
      omega
theorem mid_lem {b e x y : Nat} (h1 : b + 2 ≤ e) (h2 : e ≤ b + (x + y)) (hx : 1 ≤ x) (hy : 1 ≤ y) : ∃ L C : Nat, (if (e : Int) - (y : Int) > (b : Int) + 1 then (e : Int) - (y : Int) else (b : Int) + 1) = (L : Int) ∧ ((if (b : Int) + (x : Int) < (e : Int) - 1 then (b : Int) + (x : Int) else (e : Int) - 1) + 1 - (L : Int)).toNat = C + 1 ∧
    (∀ m, L ≤ m → m < L + (C + 1) → b < m ∧ m < e ∧ m - b ≤ x ∧ e - m ≤ y) ∧ L ≤ e ∧ (if (b : Int) + (x : Int) < (e : Int) - 1 then (b : Int) + (x : Int) else (e : Int) - 1) ≤ (e : Int) ∧ 0 ≤ (if (b : Int) + (x : Int) < (e : Int) - 1 then (b : Int) + (x : Int) else (e : Int) - 1) := by
  refine ⟨max (b + 1) (e - y), min (e - 1) (b + x) - max (b + 1) (e - y), ?_, ?_, fun m h3 h4 => ?_, ?_, ?_, ?_⟩
  · split <;> omega
  · split <;> omega
  · omega
  · omega
  · split <;> omega
  · split <;> omega
theorem add_lst7 {G : Gp} {a b : Addr} {xs ys : List D} {q : DK} (h1 : G a = some (.lst xs)) (h2 : G b = some (.lst ys)) (hl : xs.length + ys.length ≤ sizeLine) (k : ∀ p, G p = none → q (.ref p) (gup G p (.lst (xs ++ ys)))) : xAdd (.ref a) (.ref b) G q := by
  show (match G a, G b with
    | some (.lst xs), some (.lst ys) => xs.length + ys.length ≤ sizeLine ∧ ∀ p, G p = none → q (.ref p) (gup G p (.lst (xs ++ ys)))
    | _, _ => False)
  rw [h1, h2]
  exact ⟨hl, k⟩
end L3

namespace L3
open PySem PySem.Spec PyProof.Rows L2 Rw
/-- the works of left plans over a part, by where they are parted -/
inductive Pa (c : Nat → Int) : Nat → Nat → Nat → Int → Prop
  | one {p b : Nat} : Pa c (p + 1) b (b + 1) (c b)
  | two {p b m e : Nat} {w1 w2 w3 : Int} : Pa c (p + 1) b m w1 → Pa c p m e w2 → Pa c p b m w3 → Pa c (p + 1) b e (w1 + w2 + w3)
/-- the works of ways to the last mark -/
inductive Pr (c : Nat → Int) (n : Nat) : Nat → Nat → Int → Prop
  | one {p b : Nat} : b + 1 = n → Pr c n (p + 1) b (c b)
  | two {p b m : Nat} {w1 w2 : Int} : Pa c (p + 1) b m w1 → Pr c n p m w2 → Pr c n (p + 1) b (w1 + w2)
variable {c c' : Nat → Int} {n p b e : Nat} {w : Int}
theorem Pa.lt (h : Pa c p b e w) : b < e ∧ 1 ≤ p := by
  induction h with
  | one => omega
  | two _ _ _ i1 i2 i3 => omega
theorem Pr.lt (h : Pr c n p b w) : b < n ∧ 1 ≤ p := by
  induction h with
  | one => omega
  | two h1 _ i => have := h1.lt; omega
theorem Pa.cap (h : Pa c p b e w) : e - b ≤ L3.cap p true := by
  induction h with
  | @one p b => have := cap_pos (s := p + 1) (b := true) (by omega); omega
  | @two p b m e w1 w2 w3 h1 h2 h3 i1 i2 i3 =>
    have q := (cap_two (p := p + 1) (by have := h2.lt; omega)).1
    rw [show p + 1 - 1 = p by omega] at q
    omega
theorem Pr.cap (h : Pr c n p b w) : n - b ≤ L3.cap p false := by
  induction h with
  | @one p b h => have := cap_pos (s := p + 1) (b := false) (by omega); omega
  | @two p b m w1 w2 h1 h2 i2 =>
    have q := (cap_two (p := p + 1) (by have := h2.lt; omega)).2
    rw [show p + 1 - 1 = p by omega] at q
    have := h1.cap
    omega
theorem Pa.more (h : Pa c p b e w) : Pa c (p + 1) b e w := by
  induction h with
  | one => exact .one
  | two _ _ _ i1 i2 i3 => exact .two i1 i2 i3
theorem Pr.more (h : Pr c n p b w) : Pr c n (p + 1) b w := by
  induction h with
  | one h => exact .one h
  | two h1 _ i2 => exact .two h1.more i2
theorem Pa.pos (hc : ∀ i, 0 ≤ c i) (h : Pa c p b e w) : 0 ≤ w := by
  induction h with
  | one => exact hc _
  | two _ _ _ i1 i2 i3 => omega
theorem Pa.pr (hc : ∀ i, 0 ≤ c i) (h : Pa c p b e w) : ∃ v, Pr c e p b v ∧ v ≤ w := by
  induction h with
  | one => exact ⟨_, .one rfl, Int.le_refl _⟩
  | two h1 _ h3 i1 i2 i3 =>
    obtain ⟨v2, q2, r2⟩ := i2
    have := h3.pos hc
    exact ⟨_, .two h1 q2, by omega⟩
theorem Pr.last (hc : ∀ i, 0 ≤ c i) {N : Nat} (h : Pr c N p b w) : ∀ n, N = n + 1 → b < n → ∃ v, Pr c n p b v ∧ v + c n ≤ w := by
  induction h with
  | one h => intro n e hb; omega
  | @two p b m w1 w2 h1 h2 i2 =>
    intro n e hb
    subst e
    rcases Nat.lt_or_ge m n with z | z
    · obtain ⟨v, q, r⟩ := i2 n rfl z
      exact ⟨w1 + v, .two h1 q, by omega⟩
    · have hm : m = n := by have := h2.lt; omega
      subst hm
      obtain ⟨v, q, r⟩ := h1.pr hc
      refine ⟨v, q, ?_⟩
      have hw : w2 = c m := by
        cases h2 with
        | one _ => rfl
        | two h3 h4 => have := h3.lt; have := h4.lt; omega
      omega
/-- the least of them -/
noncomputable def LeastA (c : Nat → Int) (p b e : Nat) (w : Int) : Prop := Pa c p b e w ∧ ∀ v, Pa c p b e v → w ≤ v
noncomputable def LeastR (c : Nat → Int) (n p b : Nat) (w : Int) : Prop := Pr c n p b w ∧ ∀ v, Pr c n p b v → w ≤ v
theorem LeastA.one {p b : Nat} : LeastA c (p + 1) b (b + 1) (c b) := by
  refine ⟨.one, fun v h => ?_⟩
  generalize he : b + 1 = e at h
  cases h with
  | one => exact Int.le_refl _
  | two h1 h2 _ => have := h1.lt; have := h2.lt; omega
theorem LeastR.one {p b : Nat} : LeastR c (b + 1) (p + 1) b (c b) := by
  refine ⟨.one rfl, fun v h => ?_⟩
  cases h with
  | one _ => exact Int.le_refl _
  | two h1 h2 => have := h1.lt; have := h2.lt; omega
/-- the least over the middles is the least -/
theorem LeastA.two {p b e : Nat} {w : Int} (hb : b + 1 < e) (hw : ∃ m w1 w2 w3, LeastA c (p + 1) b m w1 ∧ LeastA c p m e w2 ∧ LeastA c p b m w3 ∧ w = w1 + w2 + w3)
    (hl : ∀ m, b < m → m < e → m - b ≤ L3.cap p true → e - m ≤ L3.cap p true → ∃ w1 w2 w3, LeastA c (p + 1) b m w1 ∧ LeastA c p m e w2 ∧ LeastA c p b m w3 ∧ w ≤ w1 + w2 + w3) : LeastA c (p + 1) b e w := by
  obtain ⟨m, w1, w2, w3, h1, h2, h3, rfl⟩ := hw
  refine ⟨.two h1.1 h2.1 h3.1, fun v h => ?_⟩
  cases h with
  | one => omega
  | @two _ _ m' _ u1 u2 u3 q1 q2 q3 =>
    obtain ⟨x1, x2, x3, y1, y2, y3, y⟩ := hl m' q1.lt.1 q2.lt.1 q3.cap q2.cap
    have := y1.2 _ q1
    have := y2.2 _ q2
    have := y3.2 _ q3
    omega
theorem LeastR.two {n p b : Nat} {w : Int} (hb : b + 1 < n) (hw : ∃ m w1 w2, LeastA c (p + 1) b m w1 ∧ LeastR c n p m w2 ∧ w = w1 + w2)
    (hl : ∀ m, b < m → m < n → m - b ≤ L3.cap (p + 1) true → n - m ≤ L3.cap p false → ∃ w1 w2, LeastA c (p + 1) b m w1 ∧ LeastR c n p m w2 ∧ w ≤ w1 + w2) : LeastR c n (p + 1) b w := by
  obtain ⟨m, w1, w2, h1, h2, rfl⟩ := hw
  refine ⟨.two h1.1 h2.1, fun v h => ?_⟩
  cases h with
  | one h => omega
  | @two _ _ m' u1 u2 q1 q2 =>
    obtain ⟨x1, x2, y1, y2, y⟩ := hl m' q1.lt.1 q2.lt.1 q1.cap q2.cap
    have := y1.2 _ q1
    have := y2.2 _ q2
    omega
theorem Pa.congr (h : Pa c p b e w) : (∀ i, i < e → c i = c' i) → Pa c' p b e w := by
  induction h with
  | @one p b => intro hc; rw [hc b (by omega)]; exact .one
  | two h1 h2 h3 i1 i2 i3 =>
    intro hc
    have := h2.lt
    exact .two (i1 fun i hi => hc i (by omega)) (i2 hc) (i3 fun i hi => hc i (by omega))
theorem Pr.congr (h : Pr c n p b w) : (∀ i, i < n → c i = c' i) → Pr c' n p b w := by
  induction h with
  | @one p b hb => intro hc; rw [hc b (by omega)]; exact .one hb
  | two h1 h2 i2 =>
    intro hc
    have := h2.lt
    exact .two (h1.congr fun i hi => hc i (by omega)) (i2 hc)
theorem LeastA.congr (h : LeastA c p b e w) (hc : ∀ i, i < e → c i = c' i) : LeastA c' p b e w :=
  ⟨h.1.congr hc, fun v hv => h.2 v (hv.congr fun i hi => (hc i hi).symm)⟩
theorem LeastR.congr (h : LeastR c n p b w) (hc : ∀ i, i < n → c i = c' i) : LeastR c' n p b w :=
  ⟨h.1.congr hc, fun v hv => h.2 v (hv.congr fun i hi => (hc i hi).symm)⟩
end L3

namespace L3
open PySem PySem.Spec PyProof.Rows L2 Rw
noncomputable def cf (pl : List Int) (i : Nat) : Int := pl.getD i 0
theorem cf_at {pl : List Int} {i : Nat} (h : i < pl.length) : cf pl i = pl[i] := by simp [cf, h]
/-- a table that has just the keys in Dm, each with its least work -/
noncomputable def TAv (c : Nat → Int) (Dm : Nat → Nat → Nat → Prop) (kvs : List (List Key × D)) : Prop := ∀ p b e, (Dm p b e → ∃ w m, valD kvs (k3 p b e) = some (vD w m) ∧ LeastA c p b e w) ∧ (¬ Dm p b e → valD kvs (k3 p b e) = none)
noncomputable def TRv (c : Nat → Int) (n : Nat) (Dm : Nat → Nat → Prop) (kvs : List (List Key × D)) : Prop := ∀ p b, (Dm p b → ∃ w m, valD kvs (k2 p b) = some (vD w m) ∧ LeastR c n p b w) ∧ (¬ Dm p b → valD kvs (k2 p b) = none)
theorem TAv.congr {c : Nat → Int} {D1 D2 : Nat → Nat → Nat → Prop} {kvs : List (List Key × D)} (h : TAv c D1 kvs) (e : ∀ p b e, D1 p b e ↔ D2 p b e) : TAv c D2 kvs := fun p b e' => ⟨fun z => (h p b e').1 ((e p b e').mpr z), fun z => (h p b e').2 fun q => z ((e p b e').mp q)⟩
theorem TRv.congr {n : Nat} {c : Nat → Int} {D1 D2 : Nat → Nat → Prop} {kvs : List (List Key × D)} (h : TRv c n D1 kvs) (e : ∀ p b, D1 p b ↔ D2 p b) : TRv c n D2 kvs := fun p b => ⟨fun z => (h p b).1 ((e p b).mpr z), fun z => (h p b).2 fun q => z ((e p b).mp q)⟩
theorem TAv.put {c : Nat → Int} {Dm : Nat → Nat → Nat → Prop} {kvs : List (List Key × D)} {p b e m : Nat} {w : Int} (h : TAv c Dm kvs) (hn : ¬ Dm p b e) (hm : LeastA c p b e w) : TAv c (fun p' b' e' => Dm p' b' e' ∨ (p' = p ∧ b' = b ∧ e' = e)) (putT kvs (k3 p b e) (vD w m)) := by
  intro p' b' e'
  rw [val_put ((h p b e).2 hn)]
  by_cases hk : k3 p' b' e' = k3 p b e
  · obtain ⟨rfl, rfl, rfl⟩ := k3_inj hk
    rw [if_pos rfl]
    exact ⟨fun _ => ⟨w, m, rfl, hm⟩, fun z => absurd (.inr ⟨rfl, rfl, rfl⟩) z⟩
  · rw [if_neg hk]
    refine ⟨fun z => (h p' b' e').1 (z.resolve_right fun q => hk ?_), fun z => (h p' b' e').2 fun q => z (.inl q)⟩
    obtain ⟨rfl, rfl, rfl⟩ := q
    rfl
theorem TRv.put {n : Nat} {c : Nat → Int} {Dm : Nat → Nat → Prop} {kvs : List (List Key × D)} {p b m : Nat} {w : Int} (h : TRv c n Dm kvs) (hn : ¬ Dm p b) (hm : LeastR c n p b w) : TRv c n (fun p' b' => Dm p' b' ∨ (p' = p ∧ b' = b)) (putT kvs (k2 p b) (vD w m)) := by
  intro p' b'
  rw [val_put ((h p b).2 hn)]
  by_cases hk : k2 p' b' = k2 p b
  · obtain ⟨rfl, rfl⟩ := k2_inj hk
    rw [if_pos rfl]
    exact ⟨fun _ => ⟨w, m, rfl, hm⟩, fun z => absurd (.inr ⟨rfl, rfl⟩) z⟩
  · rw [if_neg hk]
    refine ⟨fun z => (h p' b').1 (z.resolve_right fun q => hk ?_), fun z => (h p' b').2 fun q => z (.inl q)⟩
    obtain ⟨rfl, rfl⟩ := q
    rfl
theorem lex_le {a b x y : Int} (h : HT.lexLt [a, x] [b, y] = false) : b ≤ a := by
  rcases Int.lt_or_le a b with z | z
  · simp [HT.lexLt, z] at h
    omega
  · exact z
end L3

namespace L3
open PySem PySem.Spec PyProof.Rows L2 Rw
noncomputable def oD : Option Int → D
  | none => .non
  | some w => .int w
noncomputable def AnsA (pl : List Int) (s : Nat) (x : Option Int) : Prop := (∃ W, x = some W ∧ LeastA (cf pl) s 0 pl.length W) ∨ (¬ pl.length ≤ cap s true ∧ x = none)
noncomputable def AnsR (pl : List Int) (s : Nat) (x : Option Int) : Prop := (∃ W, x = some W ∧ LeastR (cf pl) pl.length s 0 W) ∨ (¬ pl.length ≤ cap s false ∧ x = none)
variable {pl pl' : List Int} {s : Nat} {x y : Option Int}
theorem AnsA.get (h : AnsA pl s x) {W : Int} (e : x = some W) : LeastA (cf pl) s 0 pl.length W := by
  rcases h with ⟨V, rfl, hV⟩ | ⟨_, rfl⟩
  · cases e; exact hV
  · cases e
theorem AnsR.get (h : AnsR pl s x) {W : Int} (e : x = some W) : LeastR (cf pl) pl.length s 0 W := by
  rcases h with ⟨V, rfl, hV⟩ | ⟨_, rfl⟩
  · cases e; exact hV
  · cases e
end L3

namespace L3
open PySem PySem.Spec PyProof.Rows L2 Rw
section
variable {X : Cx} {K : PySem.W.Frag} {H : Hp}
noncomputable def oV : Option Int → V
  | none => .non
  | some w => .int w
theorem relO_inv : ∀ {xs : List (Option Int)} {vs : List V}, RelDs K H (xs.map oD) vs → vs = xs.map oV
  | [], vs, r => r.inv_nil
  | none :: xs, vs, r => by
    obtain ⟨x, ys, rfl, h1, h2⟩ := r.inv_cons
    rw [relO_inv h2, show x = V.non from h1.non_inv]; rfl
  | some a :: xs, vs, r => by
    obtain ⟨x, ys, rfl, h1, h2⟩ := r.inv_cons
    rw [relO_inv h2, show x = V.int a from h1.int_inv]; rfl
theorem flatO : ∀ xs : List (Option Int), (xs.map oV).all flatV = true
  | [] => rfl
  | none :: xs => by rw [List.map_cons, List.all_cons, flatO xs]; rfl
  | some _ :: xs => by rw [List.map_cons, List.all_cons, flatO xs]; rfl
theorem in_O : ∀ xs : List (Option Int), inV V.non (xs.map oV) = decide (none ∈ xs)
  | [] => rfl
  | none :: xs => by simp [inV, oV, eqV]
  | some a :: xs => by
    have := in_O xs
    unfold inV at this ⊢
    rw [List.map_cons, List.any_cons, this]
    simp [oV, eqV]
/-- None in a list of ints and Nones -/
@[reducible] def xInN : R3 := fun x y G q => ∃ (a : Addr) (xs : List (Option Int)), x = .non ∧ y = .ref a ∧ seqOf (G a) = some (xs.map oD) ∧ q (.bl (decide (none ∈ xs))) G
theorem x_inN {k : Nat} {A : Around} (_ : Room k A) : Op3 X (compareOp .In) xInN := weakOp op_in_seq fun x y H Q ⟨d, e, G, q, r1, r2, c, t, f⟩ => by
  obtain ⟨a, xs, rfl, rfl, es, t⟩ := t
  obtain ⟨vs, s1, q1⟩ := sql_of c es
  cases r1.non_inv
  obtain rfl := relO_inv q1
  exact ⟨a, _, r2.ref_inv, .inl s1, rfl, flatO xs, f _ _ _ _ (by rw [in_O]; exact RelD.blI) c (Le.refl H) t⟩
end
noncomputable def osum : List (Option Int) → Option Int
  | [] => some 0
  | none :: _ => none
  | some a :: t => (osum t).map (a + ·)
theorem osum_none : ∀ {xs : List (Option Int)}, none ∈ xs → osum xs = none
  | none :: _, _ => rfl
  | some a :: t, h => by
    have : none ∈ t := by simpa using h
    simp [osum, osum_none this]
theorem osum_some : ∀ {xs : List (Option Int)}, ¬ none ∈ xs → ∃ ks : List Int, xs = ks.map some ∧ osum xs = some ks.sum
  | [], _ => ⟨[], rfl, rfl⟩
  | none :: _, h => absurd (List.mem_cons_self ..) h
  | some a :: t, h => by
    obtain ⟨ks, rfl, e⟩ := osum_some (xs := t) fun x => h (List.mem_cons_of_mem _ x)
    exact ⟨a :: ks, rfl, by simp [osum, e]⟩
theorem osum3 {a b c : Option Int} {w : Int} (h : osum [a, b, c] = some w) : ∃ x y z, a = some x ∧ b = some y ∧ c = some z ∧ w = x + y + z := by
  cases a <;> cases b <;> cases c <;> simp [osum] at h
  rename_i x y z
  exact ⟨x, y, z, rfl, rfl, rfl, by omega⟩
theorem osum2 {a b : Option Int} {w : Int} (h : osum [a, b] = some w) : ∃ x y, a = some x ∧ b = some y ∧ w = x + y := by
  cases a <;> cases b <;> simp [osum] at h
  rename_i x y
  exact ⟨x, y, rfl, rfl, by omega⟩
noncomputable def Lst (xs : List (Option Int)) (x : Option Int) : Prop := (x = none ∧ ∀ y ∈ xs, y = none) ∨ ∃ W, x = some W ∧ some W ∈ xs ∧ ∀ V, some V ∈ xs → W ≤ V
noncomputable def OA (c : Nat → Int) (p b e : Nat) (x : Option Int) : Prop := (∃ W, x = some W ∧ LeastA c p b e W) ∨ (x = none ∧ ∀ w, ¬ Pa c p b e w)
noncomputable def OR (c : Nat → Int) (n p b : Nat) (x : Option Int) : Prop := (∃ W, x = some W ∧ LeastR c n p b W) ∨ (x = none ∧ ∀ w, ¬ Pr c n p b w)
variable {c : Nat → Int} {n p b e f z M : Nat} {x y : Option Int} {w : Int}
theorem OA.of (h : OA c p b e x) (q : Pa c p b e w) : ∃ W, x = some W ∧ W ≤ w := by
  rcases h with ⟨W, rfl, hW⟩ | ⟨_, h⟩
  · exact ⟨W, rfl, hW.2 _ q⟩
  · exact absurd q (h _)
theorem OR.of (h : OR c n p b x) (q : Pr c n p b w) : ∃ W, x = some W ∧ W ≤ w := by
  rcases h with ⟨W, rfl, hW⟩ | ⟨_, h⟩
  · exact ⟨W, rfl, hW.2 _ q⟩
  · exact absurd q (h _)
theorem OA.pa (h : OA c p b e (some w)) : Pa c p b e w := by
  rcases h with ⟨W, e, hW⟩ | ⟨e, _⟩
  · cases e; exact hW.1
  · cases e
theorem OR.pr (h : OR c n p b (some w)) : Pr c n p b w := by
  rcases h with ⟨W, e, hW⟩ | ⟨e, _⟩
  · cases e; exact hW.1
  · cases e
theorem OA.eq (h : OA c p b e x) (h' : OA c p b e y) : x = y := by
  rcases h with ⟨W, rfl, hW⟩ | ⟨rfl, h⟩
  · obtain ⟨V, rfl, hV⟩ := h'.of hW.1
    have := hW.2 _ h'.pa
    congr 1; omega
  · rcases h' with ⟨W, rfl, hW⟩ | ⟨rfl, _⟩
    · exact absurd hW.1 (h _)
    · rfl
theorem OR.eq (h : OR c n p b x) (h' : OR c n p b y) : x = y := by
  rcases h with ⟨W, rfl, hW⟩ | ⟨rfl, h⟩
  · obtain ⟨V, rfl, hV⟩ := h'.of hW.1
    have := hW.2 _ h'.pr
    congr 1; omega
  · rcases h' with ⟨W, rfl, hW⟩ | ⟨rfl, _⟩
    · exact absurd hW.1 (h _)
    · rfl
theorem OA.zero : OA c 0 b e none := .inr ⟨rfl, fun w q => by have := q.lt; omega⟩
theorem OR.zero : OR c n 0 b none := .inr ⟨rfl, fun w q => by have := q.lt; omega⟩
/-- what has been gathered over the middles below M -/
noncomputable def Hts (P : Nat → Option Int → Prop) (M : Nat) (xs : List (Option Int)) : Prop := (∀ y ∈ xs, y = none ∨ ∃ m, 1 ≤ m ∧ m < M ∧ P m y) ∧ ∀ m, 1 ≤ m → m < M → ∃ y ∈ xs, P m y
theorem Hts.nil {P : Nat → Option Int → Prop} : Hts P 1 [none] := ⟨fun y h => .inl (by simpa using h), fun m h1 h2 => by omega⟩
theorem Hts.add {P : Nat → Option Int → Prop} {xs : List (Option Int)} (h : Hts P M xs) (hM : 1 ≤ M) (hy : P M y) : Hts P (M + 1) (xs ++ [y]) := by
  refine ⟨fun v hv => ?_, fun m h1 h2 => ?_⟩
  · rcases List.mem_append.mp hv with q | q
    · rcases h.1 v q with r | ⟨m, r1, r2, r3⟩
      · exact .inl r
      · exact .inr ⟨m, r1, by omega, r3⟩
    · rw [List.mem_singleton.mp q]; exact .inr ⟨M, hM, by omega, hy⟩
  · rcases Nat.lt_or_ge m M with q | q
    · obtain ⟨v, r1, r2⟩ := h.2 m h1 q
      exact ⟨v, List.mem_append_left _ r1, r2⟩
    · have : m = M := by omega
      subst this
      exact ⟨y, List.mem_append_right _ (List.mem_singleton.mpr rfl), hy⟩
noncomputable def StA (c : Nat → Int) (p f z m : Nat) (y : Option Int) : Prop := ∃ u v t, OA c (p + 1) f (f + m) u ∧ OA c p (f + m) (f + z) v ∧ OA c p f (f + m) t ∧ y = osum [u, v, t]
noncomputable def StR (c : Nat → Int) (p f z m : Nat) (y : Option Int) : Prop := ∃ u v, OA c (p + 1) f (f + m) u ∧ OR c (f + z) p (f + m) v ∧ y = osum [u, v]
theorem lst_A {xs : List (Option Int)} (hz : 2 ≤ z) (h : Hts (StA c p f z) z xs) (hx : Lst xs x) : OA c (p + 1) f (f + z) x := by
  have key : ∀ v, Pa c (p + 1) f (f + z) v → ∃ V, some V ∈ xs ∧ V ≤ v := by
    intro v hv
    generalize hE : f + z = E at hv
    cases hv with
    | one => omega
    | @two _ _ m' _ u1 u2 u3 q1 q2 q3 =>
      subst hE
      obtain ⟨m, rfl⟩ : ∃ m, m' = f + m := ⟨m' - f, by have := q1.lt; omega⟩
      have := q1.lt
      have := q2.lt
      obtain ⟨y, hy, a1, a2, a3, r1, r2, r3, rfl⟩ := h.2 m (by omega) (by omega)
      obtain ⟨w1, rfl, l1⟩ := r1.of q1
      obtain ⟨w2, rfl, l2⟩ := r2.of q2
      obtain ⟨w3, rfl, l3⟩ := r3.of q3
      exact ⟨w1 + (w2 + (w3 + 0)), hy, by omega⟩
  rcases hx with ⟨rfl, hn⟩ | ⟨W, rfl, hW, hl⟩
  · refine .inr ⟨rfl, fun v hv => ?_⟩
    obtain ⟨V, h1, _⟩ := key v hv
    cases hn _ h1
  · refine .inl ⟨W, rfl, ?_, fun v hv => ?_⟩
    · rcases h.1 _ hW with e | ⟨m, h1, h2, a1, a2, a3, r1, r2, r3, e⟩
      · cases e
      · obtain ⟨w1, w2, w3, rfl, rfl, rfl, rfl⟩ := osum3 e.symm
        exact .two r1.pa r2.pa r3.pa
    · obtain ⟨V, h1, h2⟩ := key v hv
      have := hl V h1
      omega
theorem lst_R {xs : List (Option Int)} (hz : 2 ≤ z) (h : Hts (StR c p f z) z xs) (hx : Lst xs x) : OR c (f + z) (p + 1) f x := by
  have key : ∀ v, Pr c (f + z) (p + 1) f v → ∃ V, some V ∈ xs ∧ V ≤ v := by
    intro v hv
    cases hv with
    | one hh => omega
    | @two _ _ m' u1 u2 q1 q2 =>
      obtain ⟨m, rfl⟩ : ∃ m, m' = f + m := ⟨m' - f, by have := q1.lt; omega⟩
      have := q1.lt
      have := q2.lt
      obtain ⟨y, hy, a1, a2, r1, r2, rfl⟩ := h.2 m (by omega) (by omega)
      obtain ⟨w1, rfl, l1⟩ := r1.of q1
      obtain ⟨w2, rfl, l2⟩ := r2.of q2
      exact ⟨w1 + (w2 + 0), hy, by omega⟩
  rcases hx with ⟨rfl, hn⟩ | ⟨W, rfl, hW, hl⟩
  · refine .inr ⟨rfl, fun v hv => ?_⟩
    obtain ⟨V, h1, _⟩ := key v hv
    cases hn _ h1
  · refine .inl ⟨W, rfl, ?_, fun v hv => ?_⟩
    · rcases h.1 _ hW with e | ⟨m, h1, h2, a1, a2, r1, r2, e⟩
      · cases e
      · obtain ⟨w1, w2, rfl, rfl, rfl⟩ := osum2 e.symm
        exact .two r1.pa r2.pr
    · obtain ⟨V, h1, h2⟩ := key v hv
      have := hl V h1
      omega
theorem OA.one : OA c (p + 1) b (b + 1) (some (c b)) := .inl ⟨_, rfl, LeastA.one⟩
theorem OR.one : OR c (b + 1) (p + 1) b (some (c b)) := .inl ⟨_, rfl, LeastR.one⟩
/-- a table over pairs of numbers -/
noncomputable def TG (Dm : Nat → Nat → Prop) (Pv : Nat → Nat → D → Prop) (kvs : List (List Key × D)) : Prop := ∀ f z, (Dm f z → ∃ d, valD kvs (k2 f z) = some d ∧ Pv f z d) ∧ (¬ Dm f z → valD kvs (k2 f z) = none)
theorem TG.congr {D1 D2 : Nat → Nat → Prop} {Pv : Nat → Nat → D → Prop} {kvs : List (List Key × D)} (h : TG D1 Pv kvs) (e : ∀ f z, D1 f z ↔ D2 f z) : TG D2 Pv kvs := fun f z => ⟨fun q => (h f z).1 ((e f z).mpr q), fun q => (h f z).2 fun r => q ((e f z).mp r)⟩
theorem TG.put {Dm : Nat → Nat → Prop} {Pv : Nat → Nat → D → Prop} {kvs : List (List Key × D)} {d : D} (h : TG Dm Pv kvs) (hn : ¬ Dm f z) (hd : Pv f z d) : TG (fun f' z' => Dm f' z' ∨ (f' = f ∧ z' = z)) Pv (putT kvs (k2 f z) d) := by
  intro f' z'
  rw [val_put ((h f z).2 hn)]
  by_cases hk : k2 f' z' = k2 f z
  · obtain ⟨rfl, rfl⟩ := k2_inj hk
    rw [if_pos rfl]
    exact ⟨fun _ => ⟨d, rfl, hd⟩, fun q => absurd (.inr ⟨rfl, rfl⟩) q⟩
  · rw [if_neg hk]
    refine ⟨fun q => (h f' z').1 (q.resolve_right fun r => hk ?_), fun q => (h f' z').2 fun r => q (.inl r)⟩
    obtain ⟨rfl, rfl⟩ := r
    rfl
noncomputable def PvT (c : Nat → Int) (p f z : Nat) (d : D) : Prop := ∃ x y, d = .tup [oD x, oD y] ∧ OA c p f (f + z) x ∧ OR c (f + z) p f y
theorem lst_1n {xs : List (Option Int)} {v : Int} (h : ∀ y ∈ xs, y = none) (hx : Lst (xs ++ [some v]) x) : x = some v := by
  rcases hx with ⟨_, hn⟩ | ⟨W, rfl, hW, _⟩
  · have := hn (some v) (by simp)
    cases this
  · rcases List.mem_append.mp hW with q | q
    · cases h _ q
    · exact List.mem_singleton.mp q
theorem Hts.none1 {P : Nat → Option Int → Prop} {xs : List (Option Int)} (h : Hts P 1 xs) : ∀ y ∈ xs, y = none := fun y hy => by
  rcases h.1 y hy with e | ⟨m, h1, h2, _⟩
  · exact e
  · omega
end L3

namespace L2
open PySem PySem.Spec PyProof.Rows
section
variable {X : Cx}
/-- any of a list of bools -/
theorem call_any (hc : X.calm = true) : CallR X (.builtin "any") (fun xs H Q => ∃ (p : Addr) (bs : List Bool), xs = [.ref p] ∧ SqL X.K H p (bs.map V.bl) ∧ Q (.bl (bs.any id)) H) := by
  intro pins s σ H xs us Q I r h
  obtain ⟨p, bs, rfl, hq, q⟩ := h
  obtain ⟨u, rfl, rx⟩ := vals1 r
  cases rx
  obtain ⟨its, r', pl, hz⟩ := I.list hq
  have e := vals_bools r'
  subst e
  have hl := pl.isList
  have hlt : p < s.heap.objs.size := by obtain ⟨_, e, _⟩ := hl; exact Heap.lt_size e
  refine call_any_walk (wpAny_pyIter_list hl ?_)
  refine ⟨s.heap.objs.size, [s.heap.objs.size, p], [s.heap.objs.size], (bs.map Value.bool).toArray.size, _, _, fun i => (bs[i]?).getD false, rfl, Walks.list (A := X.A.in1) (I.ok.hd hc) _ p (Nat.ne_of_lt hlt) (bs.map Value.bool).toArray,
    ⟨⟨_, Heap.get?_push_size _ rfl, rfl, rfl⟩, hl.push _⟩, fun i v s' Q' E' hP hQ => ?_, fun h' tk hk => ?_⟩
  · have hP : (bs.map Value.bool)[i]? = some v := by simpa using hP
    rw [List.getElem?_map] at hP
    cases hb : bs[i]? with
    | none => rw [hb] at hP; cases hP
    | some b =>
      rw [hb] at hP; cases hP
      simp only [hb, Option.getD_some] at hQ
      exact wpAny_truthy_bool hQ
  · have e : ((List.range (bs.map Value.bool).toArray.size).any fun i => (bs[i]?).getD false) = bs.any id := by
      rw [List.size_toArray, List.length_map, Bool.eq_iff_iff, List.any_eq_true, List.any_eq_true]
      constructor
      · rintro ⟨i, hi, e⟩
        have hi := List.mem_range.mp hi
        rw [List.getElem?_eq_getElem hi] at e
        exact ⟨_, List.getElem_mem hi, e⟩
      · rintro ⟨b, hb, e⟩
        obtain ⟨i, hi, e2⟩ := List.mem_iff_getElem.mp hb
        refine ⟨i, List.mem_range.mpr hi, ?_⟩
        rw [List.getElem?_eq_getElem hi, e2]
        exact e
    rw [e]
    refine ⟨.bl _, H, ?_, rfl, q⟩
    exact I.kept fun b x e => hk b x (fun hm => by rw [List.mem_singleton.mp hm] at e; exact Nat.lt_irrefl _ (Heap.lt_size e)) (Heap.get?_push_of_some _ e)
end
end L2
namespace L3
open PySem PySem.Spec PyProof.Rows L2
section
variable {X : Cx} {K : PySem.W.Frag} {H : Hp} {σ : L2.St} {a b c : Expr} {ta tb tc : TE3} {pos : Pos}
@[reducible] def xAny : C3 := fun ds G q => ∃ (a : Addr) (bs : List Bool), ds = [.ref a] ∧ seqOf (G a) = some (bs.map .bl) ∧ q (.bl (bs.any id)) G
theorem relB_inv : ∀ {bs : List Bool} {vs : List V}, RelDs K H (bs.map .bl) vs → vs = bs.map V.bl
  | [], vs, r => r.inv_nil
  | b :: bs, vs, r => by
    obtain ⟨x, ys, rfl, h1, h2⟩ := r.inv_cons
    rw [relB_inv h2, h1.bl_inv]; rfl
theorem x_any (hc : X.calm = true := by rfl) : Call3 X (.builtin "any") xAny := weakCall (call_any hc) <| by
  rintro xs H Q ⟨ds, G, q, r, c, ⟨a, bs, rfl, e, t⟩, f⟩
  obtain ⟨v, rfl, r1⟩ := r.one
  cases r1.ref_inv
  obtain ⟨ys, s1, q1⟩ := sql_of c e
  obtain rfl := relB_inv q1
  exact ⟨_, bs, rfl, s1, f _ _ _ _ RelD.blI c (Le.refl H) t⟩
/-- a op1 b op2 c -/
noncomputable def dChain (r r' : R3) (ta tb tc : TE3) : TE3 := fun σ G q => ta σ G fun x G1 => tb σ G1 fun y G2 => r x y G2 fun z G3 => match z with
  | .bl k => if k = true then tc σ G3 fun w G4 => r' y w G4 q else q (.bl false) G3
  | _ => False
theorem low_chain {r r' : R3} {Q : VK} (h : lowE K (dChain r r' ta tb tc) σ H Q) : tChain (lowR K r) (lowR K r') (lowE K ta) (lowE K tb) (lowE K tc) σ H Q := by
  obtain ⟨σd, G, q, rs, c, t, f⟩ := h
  refine ⟨σd, G, _, rs, c, t, fun d G1 v H1 r1 c1 l1 t1 => ⟨σd, G1, _, rs.le l1, c1, t1, fun e G2 u H2 r2 c2 l2 t2 => ⟨d, e, G2, _, RelD.le l2 r1, r2, c2, t2, fun z G3 x H3 r3 c3 l3 t3 => ?_⟩⟩⟩
  have l13 := l1.trans (l2.trans l3)
  split at t3
  · rename_i k
    refine ⟨k, r3.bl_inv, ?_⟩
    cases k with
    | true =>
      rw [if_pos rfl] at t3 ⊢
      exact ⟨σd, G3, _, rs.le l13, c3, t3, fun z2 G4 x2 H4 r4 c4 l4 t4 => ⟨e, z2, G4, q, RelD.le (l3.trans l4) r2, r4, c4, t4, f.le (l13.trans l4)⟩⟩
    | false =>
      rw [if_neg Bool.false_ne_true] at t3 ⊢
      exact f _ _ _ _ RelD.blI c3 l13 t3
  · exact t3.elim
theorem t_chain {op op' : CmpOp} {r r' : R3} (ho : Op3 X (compareOp op) r) (ho' : Op3 X (compareOp op') r') (ha : E3 X a ta) (hb : E3 X b tb) (hc : E3 X c tc) (hm : lastMarks [op, op'] [b, c] = false := by with_unfolding_all rfl) : T3 X (.Compare a [op, op'] [b, c] pos) (dB (dChain r r' ta tb tc)) :=
  weakT (pt_chain ho ho' ha hb hc hm) fun σ H Q h => by
    obtain ⟨σd, G, q, rs, c, t, f⟩ := h
    exact low_chain (K := X.K) ⟨σd, G, _, rs, c, t, fun x G1 v H1 r1 c1 l1 t1 => by
      split at t1
      · rename_i k
        exact ⟨k, r1.bl_inv, f _ _ _ c1 l1 t1⟩
      · exact t1.elim⟩
end
end L3

namespace L3
open PySem PySem.Spec PyProof.Rows L2 Rw
/-- the work of a way -/
noncomputable def wk (c : Nat → Int) : List Mv → Int
  | [] => 0
  | p :: r => c (p.2 - 1) + wk c r
noncomputable def wkp (c : Nat → Int) : List Pm → Int
  | [] => 0
  | none :: r => wkp c r
  | some p :: r => c (p.2 - 1) + wkp c r
variable {c : Nat → Int} {n p b e : Nat} {w v : Int}
theorem wk_app : ∀ {l r : List Mv}, wk c (l ++ r) = wk c l + wk c r
  | [], r => by show wk c r = 0 + wk c r; omega
  | x :: l, r => by show c (x.2 - 1) + wk c (l ++ r) = c (x.2 - 1) + wk c l + wk c r; rw [wk_app]; omega
theorem wk_bkw : ∀ {l : List Mv}, wk c (bkw l) = wk c l
  | [] => rfl
  | x :: l => by
    have : bkw (x :: l) = bkw l ++ [(!x.1, x.2)] := by simp [bkw]
    rw [this, wk_app, wk_bkw]
    show wk c l + (c (x.2 - 1) + 0) = c (x.2 - 1) + wk c l
    omega
theorem wkp_app : ∀ {l r : List Pm}, wkp c (l ++ r) = wkp c l + wkp c r
  | [], r => by show wkp c r = 0 + wkp c r; omega
  | none :: l, r => by show wkp c (l ++ r) = wkp c l + wkp c r; rw [wkp_app]
  | some x :: l, r => by show c (x.2 - 1) + wkp c (l ++ r) = c (x.2 - 1) + wkp c l + wkp c r; rw [wkp_app]; omega
theorem wkp_some : ∀ {l : List Mv}, wkp c (l.map some) = wk c l
  | [] => rfl
  | x :: l => by show c (x.2 - 1) + wkp c (l.map some) = c (x.2 - 1) + wk c l; rw [wkp_some]
theorem LeastA.eq (h : LeastA c p b e w) (h' : LeastA c p b e v) : w = v := by
  have := h.2 _ h'.1
  have := h'.2 _ h.1
  omega
theorem LeastR.eq (h : LeastR c n p b w) (h' : LeastR c n p b v) : w = v := by
  have := h.2 _ h'.1
  have := h'.2 _ h.1
  omega
/-- what a table holds: the least work, and the middle that gives it -/
noncomputable def VA (c : Nat → Int) (p b e : Nat) (w : Int) (m : Nat) : Prop := LeastA c p b e w ∧ mA p b e m ∧ (e - b ≠ 1 → ∃ w1 w2 w3, LeastA c p b m w1 ∧ LeastA c (p - 1) m e w2 ∧ LeastA c (p - 1) b m w3 ∧ w = w1 + w2 + w3)
noncomputable def VR (c : Nat → Int) (n p b : Nat) (w : Int) (m : Nat) : Prop := LeastR c n p b w ∧ mR n p b m ∧ (n - b ≠ 1 → ∃ w1 w2, LeastA c p b m w1 ∧ LeastR c n (p - 1) m w2 ∧ w = w1 + w2)
noncomputable def TAw (c : Nat → Int) (Dm : Nat → Nat → Nat → Prop) (kvs : List (List Key × D)) : Prop := ∀ p b e, (Dm p b e → ∃ w m, valD kvs (k3 p b e) = some (vD w m) ∧ VA c p b e w m) ∧ (¬ Dm p b e → valD kvs (k3 p b e) = none)
noncomputable def TRw (c : Nat → Int) (n : Nat) (Dm : Nat → Nat → Prop) (kvs : List (List Key × D)) : Prop := ∀ p b, (Dm p b → ∃ w m, valD kvs (k2 p b) = some (vD w m) ∧ VR c n p b w m) ∧ (¬ Dm p b → valD kvs (k2 p b) = none)
theorem TAw.congr {D1 D2 : Nat → Nat → Nat → Prop} {kvs : List (List Key × D)} (h : TAw c D1 kvs) (e : ∀ p b e, D1 p b e ↔ D2 p b e) : TAw c D2 kvs := fun p b e' => ⟨fun z => (h p b e').1 ((e p b e').mpr z), fun z => (h p b e').2 fun q => z ((e p b e').mp q)⟩
theorem TRw.congr {D1 D2 : Nat → Nat → Prop} {kvs : List (List Key × D)} (h : TRw c n D1 kvs) (e : ∀ p b, D1 p b ↔ D2 p b) : TRw c n D2 kvs := fun p b => ⟨fun z => (h p b).1 ((e p b).mpr z), fun z => (h p b).2 fun q => z ((e p b).mp q)⟩
theorem TAw.put {Dm : Nat → Nat → Nat → Prop} {kvs : List (List Key × D)} {m : Nat} (h : TAw c Dm kvs) (hn : ¬ Dm p b e) (hm : VA c p b e w m) : TAw c (fun p' b' e' => Dm p' b' e' ∨ (p' = p ∧ b' = b ∧ e' = e)) (putT kvs (k3 p b e) (vD w m)) := by
  intro p' b' e'
  rw [val_put ((h p b e).2 hn)]
  by_cases hk : k3 p' b' e' = k3 p b e
  · obtain ⟨rfl, rfl, rfl⟩ := k3_inj hk
    rw [if_pos rfl]
    exact ⟨fun _ => ⟨w, m, rfl, hm⟩, fun z => absurd (.inr ⟨rfl, rfl, rfl⟩) z⟩
  · rw [if_neg hk]
    refine ⟨fun z => (h p' b' e').1 (z.resolve_right fun q => hk ?_), fun z => (h p' b' e').2 fun q => z (.inl q)⟩
    obtain ⟨rfl, rfl, rfl⟩ := q
    rfl
theorem TRw.put {Dm : Nat → Nat → Prop} {kvs : List (List Key × D)} {m : Nat} (h : TRw c n Dm kvs) (hn : ¬ Dm p b) (hm : VR c n p b w m) : TRw c n (fun p' b' => Dm p' b' ∨ (p' = p ∧ b' = b)) (putT kvs (k2 p b) (vD w m)) := by
  intro p' b'
  rw [val_put ((h p b).2 hn)]
  by_cases hk : k2 p' b' = k2 p b
  · obtain ⟨rfl, rfl⟩ := k2_inj hk
    rw [if_pos rfl]
    exact ⟨fun _ => ⟨w, m, rfl, hm⟩, fun z => absurd (.inr ⟨rfl, rfl⟩) z⟩
  · rw [if_neg hk]
    refine ⟨fun z => (h p' b').1 (z.resolve_right fun q => hk ?_), fun z => (h p' b').2 fun q => z (.inl q)⟩
    obtain ⟨rfl, rfl⟩ := q
    rfl
theorem pln_left {l s : Nat} {w : List Mv} (h0 : 0 < l) (h : WOK 0 l s true w) : PLN l s true (w.map some) := by
  unfold PLN
  rw [if_pos rfl]
  exact ⟨w, rfl, (h.start (Nat.le_refl _) (Nat.le_refl _)).1, h.left h0 (Nat.le_refl _) (Nat.le_refl _)⟩
theorem pln_shown {l s : Nat} {w : List Mv} (h : WOK 0 l s false w) : PLN l s false (w.map some ++ [none] ++ (bkw w).map some) := by
  unfold PLN
  rw [if_neg (by decide)]
  have := h.start (Nat.le_refl l) (Nat.le_refl s)
  exact ⟨w, w, rfl, this.1, this.1, rfl, this.2⟩
theorem wkp_shown {w : List Mv} : wkp c (w.map some ++ [none] ++ (bkw w).map some) = wk c w + wk c w := by
  rw [wkp_app, wkp_app, wkp_some, wkp_some, wk_bkw]
  show wk c w + 0 + wk c w = _
  omega
theorem mks_one {n : Nat} (h1 : 1 ≤ n) (h2 : n ≤ 24) : mks (2 ^ (n - 1)) = [(n : Int)] := by
  refine same_sorted mks_lt (List.pairwise_singleton _ _) fun x => ?_
  rw [mem_mks]
  constructor
  · rintro ⟨i, _, h, rfl⟩
    rw [Nat.testBit_two_pow] at h
    have : n - 1 = i := by simpa using h
    simp
    omega
  · intro h
    have hx : x = (n : Int) := by simpa using h
    subst hx
    exact ⟨n - 1, by omega, by rw [Nat.testBit_two_pow]; simp, by omega⟩
end L3

namespace Law
open PySem L2 L3
set_option maxHeartbeats 4000000
noncomputable def top (i : Nat) : Stmt := PySem.Challenge.pw_nolitter_k36_plans_of_least_work.main.body.getD i (.Pass ⟨0, 0, 0, 0⟩)
noncomputable abbrev s_turned_plan : Stmt := top 1
noncomputable abbrev s_turned_move : Stmt := top 2
noncomputable abbrev s_reach : Stmt := top 4
noncomputable abbrev s_alone_reach : Stmt := top 5
noncomputable abbrev s_alone_table : Stmt := top 6
noncomputable abbrev s_least_alone : Stmt := top 7
noncomputable abbrev s_alone_by : Stmt := top 8
noncomputable abbrev s_reached_table : Stmt := top 9
noncomputable abbrev s_least_reached : Stmt := top 10
noncomputable abbrev s_left_plan : Stmt := top 12
noncomputable abbrev s_shown_plan : Stmt := top 13
noncomputable abbrev s_left_way : Stmt := top 14
noncomputable abbrev s_reached_way : Stmt := top 15
noncomputable abbrev s_law_draw : Stmt := top 17
noncomputable abbrev s_law_behind : Stmt := top 18
noncomputable abbrev s_law_one : Stmt := top 19
noncomputable abbrev s_law_pass : Stmt := top 20
noncomputable abbrev s_law_costs : Stmt := top 21
noncomputable abbrev s_law_least : Stmt := top 22
noncomputable abbrev s_law_sum : Stmt := top 23
noncomputable abbrev s_law_table : Stmt := top 24
noncomputable abbrev s_law_work : Stmt := top 25
noncomputable abbrev s_law_right : Stmt := top 26
noncomputable abbrev s_law_both : Stmt := top 27
noncomputable abbrev s_law : Stmt := top 28
theorem sc_turned_plan : FnScope ["plan"] ["plan"] (defScope s_turned_plan) := ⟨rfl, rfl, rfl, by decide +kernel, rfl, by decide +kernel, by decide +kernel⟩
theorem sc_turned_move : FnScope ["move"] ["move"] (defScope s_turned_move) := ⟨rfl, rfl, rfl, by decide +kernel, rfl, by decide +kernel, by decide +kernel⟩
theorem sc_reach : FnScope ["s"] ["s"] (defScope s_reach) := ⟨rfl, rfl, rfl, by decide +kernel, rfl, by decide +kernel, by decide +kernel⟩
theorem sc_alone_reach : FnScope ["s"] ["s"] (defScope s_alone_reach) := ⟨rfl, rfl, rfl, by decide +kernel, rfl, by decide +kernel, by decide +kernel⟩
theorem sc_alone_table : FnScope ["costs", "s", "table", "places", "many", "begin"] ["costs", "s"] (defScope s_alone_table) := ⟨rfl, rfl, rfl, by decide +kernel, rfl, by decide +kernel, by decide +kernel⟩
theorem sc_least_alone : FnScope ["costs", "places", "begin", "end", "table", "most", "middles"] ["costs", "places", "begin", "end", "table"] (defScope s_least_alone) := ⟨rfl, rfl, rfl, by decide +kernel, rfl, by decide +kernel, by decide +kernel⟩
theorem sc_alone_by : FnScope ["places", "begin", "middle", "end", "table"] ["places", "begin", "middle", "end", "table"] (defScope s_alone_by) := ⟨rfl, rfl, rfl, by decide +kernel, rfl, by decide +kernel, by decide +kernel⟩
theorem sc_reached_table : FnScope ["costs", "s", "alones", "table", "places", "many", "begin"] ["costs", "s", "alones"] (defScope s_reached_table) := ⟨rfl, rfl, rfl, by decide +kernel, rfl, by decide +kernel, by decide +kernel⟩
theorem sc_least_reached : FnScope ["costs", "places", "begin", "alones", "table", "end", "middles"] ["costs", "places", "begin", "alones", "table"] (defScope s_least_reached) := ⟨rfl, rfl, rfl, by decide +kernel, rfl, by decide +kernel, by decide +kernel⟩
theorem sc_left_plan : FnScope ["costs", "s", "alones"] ["costs", "s"] (defScope s_left_plan) := ⟨rfl, rfl, rfl, by decide +kernel, rfl, by decide +kernel, by decide +kernel⟩
theorem sc_shown_plan : FnScope ["costs", "s", "alones", "reacheds", "way"] ["costs", "s"] (defScope s_shown_plan) := ⟨rfl, rfl, rfl, by decide +kernel, rfl, by decide +kernel, by decide +kernel⟩
theorem sc_left_way : FnScope ["places", "begin", "end", "alones", "middle"] ["places", "begin", "end", "alones"] (defScope s_left_way) := ⟨rfl, rfl, rfl, by decide +kernel, rfl, by decide +kernel, by decide +kernel⟩
theorem sc_reached_way : FnScope ["places", "begin", "end", "alones", "reacheds", "middle"] ["places", "begin", "end", "alones", "reacheds"] (defScope s_reached_way) := ⟨rfl, rfl, rfl, by decide +kernel, rfl, by decide +kernel, by decide +kernel⟩
theorem sc_law_draw : FnScope ["_law_state", "_law_many", "_law_script", "_law_k", "_law_rest", "_law_cell", "_law_number", "_law_digit"] ["_law_state", "_law_many"] (defScope s_law_draw) := ⟨rfl, rfl, rfl, by decide +kernel, rfl, by decide +kernel, by decide +kernel⟩
theorem sc_law_behind : FnScope ["_law_there", "_law_move"] ["_law_there", "_law_move"] (defScope s_law_behind) := ⟨rfl, rfl, rfl, by decide +kernel, rfl, by decide +kernel, by decide +kernel⟩
theorem sc_law_one : FnScope ["_law_there", "_law_shown", "_law_move", "_law_n", "_law_s", "_law_k"] ["_law_there", "_law_shown", "_law_move", "_law_n", "_law_s"] (defScope s_law_one) := ⟨rfl, rfl, rfl, by decide +kernel, rfl, by decide +kernel, by decide +kernel⟩
theorem sc_law_pass : FnScope ["_law_plan", "_law_n", "_law_s", "_law_there", "_law_shown", "_law_at", "_law_move"] ["_law_plan", "_law_n", "_law_s"] (defScope s_law_pass) := ⟨rfl, rfl, rfl, by decide +kernel, rfl, by decide +kernel, by decide +kernel⟩
theorem sc_law_costs : FnScope ["_law_state", "_law_n", "_law_sort"] ["_law_state", "_law_n"] (defScope s_law_costs) := ⟨rfl, rfl, rfl, by decide +kernel, rfl, by decide +kernel, by decide +kernel⟩
theorem sc_law_least : FnScope ["_law_some", "_law_there"] ["_law_some"] (defScope s_law_least) := ⟨rfl, rfl, rfl, by decide +kernel, rfl, by decide +kernel, by decide +kernel⟩
theorem sc_law_sum : FnScope ["_law_parts"] ["_law_parts"] (defScope s_law_sum) := ⟨rfl, rfl, rfl, by decide +kernel, rfl, by decide +kernel, by decide +kernel⟩
theorem sc_law_table : FnScope ["_law_prices", "_law_s", "_law_n", "_law_nothing", "_law_first", "_law_size", "_law_tables", "_law_places", "_law_here", "_law_alone_by", "_law_reached_by", "_law_m", "_law_one_here", "_law_rest"] ["_law_prices", "_law_s"] (defScope s_law_table) := ⟨rfl, rfl, rfl, by decide +kernel, rfl, by decide +kernel, by decide +kernel⟩
theorem sc_law_work : FnScope ["_law_plan", "_law_prices"] ["_law_plan", "_law_prices"] (defScope s_law_work) := ⟨rfl, rfl, rfl, by decide +kernel, rfl, by decide +kernel, by decide +kernel⟩
theorem sc_law_right : FnScope ["_law_plan", "_law_word", "_law_prices", "_law_s", "_law_due"] ["_law_plan", "_law_word", "_law_prices", "_law_s", "_law_due"] (defScope s_law_right) := ⟨rfl, rfl, rfl, by decide +kernel, rfl, by decide +kernel, by decide +kernel⟩
theorem sc_law_both : FnScope ["_law_prices", "_law_s", "_law_handed", "_law_least_here", "_law_turn", "_law_left", "_law_shown"] ["_law_prices", "_law_s"] (defScope s_law_both) := ⟨rfl, rfl, rfl, by decide +kernel, rfl, by decide +kernel, by decide +kernel⟩
theorem sc_law : FnScope ["_law_script", "_law_state", "_law_n", "_law_s", "_law_prices"] ["_law_script"] (defScope s_law) := ⟨rfl, rfl, rfl, by decide +kernel, rfl, by decide +kernel, by decide +kernel⟩
set_option genInjectivity false in
set_option genSizeOf false in
structure Txt (K : PySem.W.Frag) (mg : Str → Option Value) where
  f_turned_plan : FnAt K "turned_plan" "turned_plan" s_turned_plan ["plan"]
  g_turned_plan : mg "turned_plan" = some (.ref f_turned_plan.a)
  f_turned_move : FnAt K "turned_move" "turned_move" s_turned_move ["move"]
  g_turned_move : mg "turned_move" = some (.ref f_turned_move.a)
  f_reach : FnAt K "reach" "reach" s_reach ["s"]
  g_reach : mg "reach" = some (.ref f_reach.a)
  f_alone_reach : FnAt K "alone_reach" "alone_reach" s_alone_reach ["s"]
  g_alone_reach : mg "alone_reach" = some (.ref f_alone_reach.a)
  f_alone_table : FnAt K "alone_table" "alone_table" s_alone_table ["costs", "s"]
  g_alone_table : mg "alone_table" = some (.ref f_alone_table.a)
  f_least_alone : FnAt K "least_alone" "least_alone" s_least_alone ["costs", "places", "begin", "end", "table"]
  g_least_alone : mg "least_alone" = some (.ref f_least_alone.a)
  f_alone_by : FnAt K "alone_by" "alone_by" s_alone_by ["places", "begin", "middle", "end", "table"]
  g_alone_by : mg "alone_by" = some (.ref f_alone_by.a)
  f_reached_table : FnAt K "reached_table" "reached_table" s_reached_table ["costs", "s", "alones"]
  g_reached_table : mg "reached_table" = some (.ref f_reached_table.a)
  f_least_reached : FnAt K "least_reached" "least_reached" s_least_reached ["costs", "places", "begin", "alones", "table"]
  g_least_reached : mg "least_reached" = some (.ref f_least_reached.a)
  f_left_plan : FnAt K "left_plan" "left_plan" s_left_plan ["costs", "s"]
  g_left_plan : mg "left_plan" = some (.ref f_left_plan.a)
  f_shown_plan : FnAt K "shown_plan" "shown_plan" s_shown_plan ["costs", "s"]
  g_shown_plan : mg "shown_plan" = some (.ref f_shown_plan.a)
  f_left_way : FnAt K "left_way" "left_way" s_left_way ["places", "begin", "end", "alones"]
  g_left_way : mg "left_way" = some (.ref f_left_way.a)
  f_reached_way : FnAt K "reached_way" "reached_way" s_reached_way ["places", "begin", "end", "alones", "reacheds"]
  g_reached_way : mg "reached_way" = some (.ref f_reached_way.a)
  f_law_draw : FnAt K "_law_draw" "_law_draw" s_law_draw ["_law_state", "_law_many"]
  g_law_draw : mg "_law_draw" = some (.ref f_law_draw.a)
  f_law_behind : FnAt K "_law_behind" "_law_behind" s_law_behind ["_law_there", "_law_move"]
  g_law_behind : mg "_law_behind" = some (.ref f_law_behind.a)
  f_law_one : FnAt K "_law_one" "_law_one" s_law_one ["_law_there", "_law_shown", "_law_move", "_law_n", "_law_s"]
  g_law_one : mg "_law_one" = some (.ref f_law_one.a)
  f_law_pass : FnAt K "_law_pass" "_law_pass" s_law_pass ["_law_plan", "_law_n", "_law_s"]
  g_law_pass : mg "_law_pass" = some (.ref f_law_pass.a)
  f_law_costs : FnAt K "_law_costs" "_law_costs" s_law_costs ["_law_state", "_law_n"]
  g_law_costs : mg "_law_costs" = some (.ref f_law_costs.a)
  f_law_least : FnAt K "_law_least" "_law_least" s_law_least ["_law_some"]
  g_law_least : mg "_law_least" = some (.ref f_law_least.a)
  f_law_sum : FnAt K "_law_sum" "_law_sum" s_law_sum ["_law_parts"]
  g_law_sum : mg "_law_sum" = some (.ref f_law_sum.a)
  f_law_table : FnAt K "_law_table" "_law_table" s_law_table ["_law_prices", "_law_s"]
  g_law_table : mg "_law_table" = some (.ref f_law_table.a)
  f_law_work : FnAt K "_law_work" "_law_work" s_law_work ["_law_plan", "_law_prices"]
  g_law_work : mg "_law_work" = some (.ref f_law_work.a)
  f_law_right : FnAt K "_law_right" "_law_right" s_law_right ["_law_plan", "_law_word", "_law_prices", "_law_s", "_law_due"]
  g_law_right : mg "_law_right" = some (.ref f_law_right.a)
  f_law_both : FnAt K "_law_both" "_law_both" s_law_both ["_law_prices", "_law_s"]
  g_law_both : mg "_law_both" = some (.ref f_law_both.a)
  f_law : FnAt K "law" "law" s_law ["_law_script"]
  g_law : mg "law" = some (.ref f_law.a)
  b_abs : mg "abs" = none
  b_all : mg "all" = none
  b_any : mg "any" = none
  b_bool : mg "bool" = none
  b_divmod : mg "divmod" = none
  b_enumerate : mg "enumerate" = none
  b_int : mg "int" = none
  b_isinstance : mg "isinstance" = none
  b_len : mg "len" = none
  b_list : mg "list" = none
  b_max : mg "max" = none
  b_min : mg "min" = none
  b_range : mg "range" = none
  b_reversed : mg "reversed" = none
  b_sorted : mg "sorted" = none
  b_sum : mg "sum" = none
  b_tuple : mg "tuple" = none
end Law
namespace Law
open PySem L2 L3 Rw
set_option maxHeartbeats 4000000
section
variable {P : Program} {w : World} {K : PySem.W.Frag} {mg : Str → Option Value} {base : Heap} (T : Txt K mg)
noncomputable def S_law_draw (_ : Txt K mg) : Sp3 := spec (fun ds G => ∃ (st : Addr) (m : Int), ds = [.ref st, .int m] ∧ StAt G st ∧ 0 < m ∧ m < 1073741824)
  (fun ds G d G' => ∃ (st : Addr) (m v : Int), ds = [.ref st, .int m] ∧ Adv st G G' ∧ d = .int v ∧ 0 ≤ v ∧ v < m)
theorem draw_call {K : PySem.W.Frag} {mg : Str → Option Value} {T : Txt K mg} {G : Gp} {st : Addr} {m : Int} {q : DK} (h : StAt G st) (h0 : 0 < m) (h1 : m < 1073741824) (k : ∀ (v : Int) (G' : Gp), Adv st G G' → 0 ≤ v → v < m → q (.int v) G') :
    ∃ R, S_law_draw T [.ref st, .int m] G R ∧ ∀ d G', R d G' → q d G' :=
  spec_call ⟨st, m, rfl, h, h0, h1⟩ fun d G' ⟨st', m', v, e, a, ed, v0, v1⟩ => by
    cases e; subst ed; exact k v G' a v0 v1
noncomputable def S_reach (_ : Txt K mg) : Sp3 := fun ds G R => ∃ (s : Nat), ds = [.int (s : Int)] ∧ s ≤ 100 ∧ R (.int (cap s false : Int)) G
noncomputable def S_alone_reach (_ : Txt K mg) : Sp3 := fun ds G R => ∃ (s : Nat), ds = [.int (s : Int)] ∧ s ≤ 100 ∧ R (.int (cap s true : Int)) G
noncomputable def S_alone_by (_ : Txt K mg) : Sp3 := fun ds G R => ∃ (a : Addr) (p b m e : Nat) (kvs : List (List Key × D)) (w1 w2 w3 : Int) (m1 m2 m3 : Nat), ds = [.int (p : Int), .int (b : Int), .int (m : Int), .int (e : Int), .ref a] ∧ G a = some (.dit kvs) ∧ 1 ≤ p ∧ valD kvs (k3 p b m) = some (vD w1 m1) ∧ valD kvs (k3 (p - 1) m e) = some (vD w2 m2) ∧ valD kvs (k3 (p - 1) b m) = some (vD w3 m3) ∧ R (.int (w1 + w2 + w3)) G
noncomputable def S_least_alone (_ : Txt K mg) : Sp3 := fun ds G R => ∃ (c a : Addr) (p b e : Nat) (pl : List Int) (kvs : List (List Key × D)) (Dm : Nat → Nat → Nat → Prop), ds = [.ref c, .int (p : Int), .int (b : Int), .int (e : Int), .ref a] ∧ G c = some (.lst (pl.map .int)) ∧ G a = some (.dit kvs) ∧ TAw (cf pl) Dm kvs ∧ 1 ≤ p ∧ p ≤ 100 ∧ b < e ∧ e ≤ pl.length ∧ pl.length ≤ 24 ∧ e - b ≤ cap p true ∧
  (∀ b' e', 2 ≤ p → b' < e' → e' ≤ pl.length → e' - b' ≤ cap (p - 1) true → Dm (p - 1) b' e') ∧ (∀ b' e', b' < e' → e' ≤ pl.length → e' - b' < e - b → e' - b' ≤ cap p true → Dm p b' e') ∧ ∀ (W : Int) (m : Nat) (G' : Gp), Grow G G' → VA (cf pl) p b e W m → R (vD W m) G'
noncomputable def S_alone_table (_ : Txt K mg) : Sp3 := fun ds G R => ∃ (c : Addr) (s : Nat) (pl : List Int), ds = [.ref c, .int (s : Int)] ∧ G c = some (.lst (pl.map .int)) ∧ 1 ≤ pl.length ∧ pl.length ≤ 24 ∧ s ≤ 8 ∧ ∀ (q : Addr) (kvs : List (List Key × D)) (G' : Gp), G q = none → G' q = some (.dit kvs) → TAw (cf pl) (inA pl.length s) kvs → Grow G G' → R (.ref q) G'
noncomputable def S_least_reached (_ : Txt K mg) : Sp3 := fun ds G R => ∃ (c a t : Addr) (p b s : Nat) (pl : List Int) (ka kt : List (List Key × D)) (Dm : Nat → Nat → Prop), ds = [.ref c, .int (p : Int), .int (b : Int), .ref a, .ref t] ∧ G c = some (.lst (pl.map .int)) ∧ G a = some (.dit ka) ∧ G t = some (.dit kt) ∧ TAw (cf pl) (inA pl.length s) ka ∧ TRw (cf pl) pl.length Dm kt ∧ 1 ≤ p ∧ p ≤ s ∧ s ≤ 8 ∧ b < pl.length ∧ pl.length ≤ 24 ∧ pl.length - b ≤ cap p false ∧
  (∀ m, 2 ≤ p → m < pl.length → pl.length - m ≤ cap (p - 1) false → Dm (p - 1) m) ∧ ∀ (W : Int) (m : Nat) (G' : Gp), Grow G G' → VR (cf pl) pl.length p b W m → R (vD W m) G'
noncomputable def S_reached_table (_ : Txt K mg) : Sp3 := fun ds G R => ∃ (c a : Addr) (s : Nat) (pl : List Int) (ka : List (List Key × D)), ds = [.ref c, .int (s : Int), .ref a] ∧ G c = some (.lst (pl.map .int)) ∧ G a = some (.dit ka) ∧ TAw (cf pl) (inA pl.length s) ka ∧ 1 ≤ pl.length ∧ pl.length ≤ 24 ∧ s ≤ 8 ∧ ∀ (q : Addr) (kvs : List (List Key × D)) (G' : Gp), G q = none → G' q = some (.dit kvs) → TRw (cf pl) pl.length (inR pl.length s) kvs → Grow G G' → R (.ref q) G'
theorem c_reach {G : Gp} {s : Nat} {q : DK} (hs : s ≤ 100) (k : q (.int (cap s false : Int)) G) : ∃ R, S_reach T [.int (s : Int)] G R ∧ ∀ d G', R d G' → q d G' :=
  call_det (v := .int (cap s false : Int)) (G1 := G) (fun R h => ⟨s, rfl, hs, h⟩) k
theorem c_areach {G : Gp} {s : Nat} {q : DK} (hs : s ≤ 100) (k : q (.int (cap s true : Int)) G) : ∃ R, S_alone_reach T [.int (s : Int)] G R ∧ ∀ d G', R d G' → q d G' :=
  call_det (v := .int (cap s true : Int)) (G1 := G) (fun R h => ⟨s, rfl, hs, h⟩) k
theorem c_atable {G : Gp} {c : Addr} {s : Nat} {pl : List Int} {q : DK} (h : G c = some (.lst (pl.map .int))) (h1 : 1 ≤ pl.length) (h2 : pl.length ≤ 24) (h3 : s ≤ 8) (k : ∀ (q' : Addr) (kvs : List (List Key × D)) (G' : Gp), G q' = none → G' q' = some (.dit kvs) → TAw (cf pl) (inA pl.length s) kvs → Grow G G' → q (.ref q') G') : ∃ R, S_alone_table T [.ref c, .int (s : Int)] G R ∧ ∀ d G', R d G' → q d G' :=
  call_nd (post := fun d G' => ∃ (q' : Addr) (kvs : List (List Key × D)), d = .ref q' ∧ G q' = none ∧ G' q' = some (.dit kvs) ∧ TAw (cf pl) (inA pl.length s) kvs ∧ Grow G G') (fun R h' => ⟨c, s, pl, rfl, h, h1, h2, h3, fun q' kvs G' x y z w => h' _ _ ⟨q', kvs, rfl, x, y, z, w⟩⟩) fun d G' ⟨q', kvs, e, x, y, z, w⟩ => by subst e; exact k q' kvs G' x y z w
theorem c_rtable {G : Gp} {c a : Addr} {s : Nat} {pl : List Int} {ka : List (List Key × D)} {q : DK} (h : G c = some (.lst (pl.map .int))) (ha : G a = some (.dit ka)) (hT : TAw (cf pl) (inA pl.length s) ka) (h1 : 1 ≤ pl.length) (h2 : pl.length ≤ 24) (h3 : s ≤ 8) (k : ∀ (q' : Addr) (kvs : List (List Key × D)) (G' : Gp), G q' = none → G' q' = some (.dit kvs) → TRw (cf pl) pl.length (inR pl.length s) kvs → Grow G G' → q (.ref q') G') : ∃ R, S_reached_table T [.ref c, .int (s : Int), .ref a] G R ∧ ∀ d G', R d G' → q d G' :=
  call_nd (post := fun d G' => ∃ (q' : Addr) (kvs : List (List Key × D)), d = .ref q' ∧ G q' = none ∧ G' q' = some (.dit kvs) ∧ TRw (cf pl) pl.length (inR pl.length s) kvs ∧ Grow G G') (fun R h' => ⟨c, a, s, pl, ka, rfl, h, ha, hT, h1, h2, h3, fun q' kvs G' x y z w => h' _ _ ⟨q', kvs, rfl, x, y, z, w⟩⟩) fun d G' ⟨q', kvs, e, x, y, z, w⟩ => by subst e; exact k q' kvs G' x y z w
noncomputable def S_law_costs (_ : Txt K mg) : Sp3 := fun ds G R => ∃ (st : Addr) (n : Nat), ds = [.ref st, .int (n : Int)] ∧ StAt G st ∧ n ≤ 24 ∧ ∀ (q : Addr) (pl : List Int) (G' : Gp), Adv st G G' → q ≠ st → G' q = some (.lst (pl.map .int)) → pl.length = n → (∀ x ∈ pl, 1 ≤ x ∧ x ≤ 1000000000) → R (.ref q) G'
noncomputable def S_law_least (_ : Txt K mg) : Sp3 := fun ds G R => ∃ (a : Addr) (xs : List (Option Int)), ds = [.ref a] ∧ G a = some (.lst (xs.map oD)) ∧ xs.length ≤ 100 ∧ ∀ (x : Option Int) (G' : Gp), Grow G G' → Lst xs x → R (oD x) G'
noncomputable def S_law_sum (_ : Txt K mg) : Sp3 := fun ds G R => ∃ (a : Addr) (xs : List (Option Int)), ds = [.ref a] ∧ G a = some (.lst (xs.map oD)) ∧ R (oD (osum xs)) G
noncomputable def S_law_table (_ : Txt K mg) : Sp3 := fun ds G R => ∃ (c : Addr) (s : Nat) (pl : List Int), ds = [.ref c, .int (s : Int)] ∧ G c = some (.lst (pl.map .int)) ∧ 1 ≤ pl.length ∧ pl.length ≤ 24 ∧ s ≤ 8 ∧ ∀ (x y : Option Int) (G' : Gp), Grow G G' → OA (cf pl) s 0 pl.length x → OR (cf pl) pl.length s 0 y → R (.tup [oD x, oD y]) G'
theorem c_least {G : Gp} {a : Addr} {xs : List (Option Int)} {q : DK} (h : G a = some (.lst (xs.map oD))) (hl : xs.length ≤ 100) (k : ∀ (x : Option Int) (G' : Gp), Grow G G' → Lst xs x → q (oD x) G') : ∃ R, S_law_least T [.ref a] G R ∧ ∀ d G', R d G' → q d G' :=
  call_nd (post := fun d G' => ∃ x, d = oD x ∧ Grow G G' ∧ Lst xs x) (fun R h' => ⟨a, xs, rfl, h, hl, fun x G' y z => h' _ _ ⟨x, rfl, y, z⟩⟩) fun d G' ⟨x, e, y, z⟩ => by subst e; exact k x G' y z
theorem c_sum {G : Gp} {a : Addr} {xs : List (Option Int)} {q : DK} (h : G a = some (.lst (xs.map oD))) (k : q (oD (osum xs)) G) : ∃ R, S_law_sum T [.ref a] G R ∧ ∀ d G', R d G' → q d G' :=
  call_det (v := oD (osum xs)) (G1 := G) (fun R h' => ⟨a, xs, rfl, h, h'⟩) k
theorem c_table {G : Gp} {c : Addr} {s : Nat} {pl : List Int} {q : DK} (h : G c = some (.lst (pl.map .int))) (h1 : 1 ≤ pl.length) (h2 : pl.length ≤ 24) (h3 : s ≤ 8) (k : ∀ (x y : Option Int) (G' : Gp), Grow G G' → OA (cf pl) s 0 pl.length x → OR (cf pl) pl.length s 0 y → q (.tup [oD x, oD y]) G') : ∃ R, S_law_table T [.ref c, .int (s : Int)] G R ∧ ∀ d G', R d G' → q d G' :=
  call_nd (post := fun d G' => ∃ x y, d = .tup [oD x, oD y] ∧ Grow G G' ∧ OA (cf pl) s 0 pl.length x ∧ OR (cf pl) pl.length s 0 y) (fun R h' => ⟨c, s, pl, rfl, h, h1, h2, h3, fun x y G' u v w => h' _ _ ⟨x, y, rfl, u, v, w⟩⟩) fun d G' ⟨x, y, e, u, v, w⟩ => by subst e; exact k x y G' u v w
noncomputable def S_turned_move (_ : Txt K mg) : Sp3 := fun ds G R => ∃ (p : Pm), ds = [pmD p] ∧ R (pmD (flp p)) G
noncomputable def S_turned_plan (_ : Txt K mg) : Sp3 := fun ds G R => ∃ (a : Addr) (w : List Pm), ds = [.ref a] ∧ G a = some (.lst (w.map pmD)) ∧ w.length ≤ 4000000 ∧ ∀ q G', G q = none → G' q = some (.lst ((bkp w).map pmD)) → Grow G G' → R (.ref q) G'
noncomputable def S_left_way_r (_ : Txt K mg) (dp : Nat) : Sp3 := fun ds G R => ∃ (a : Addr) (n s p b e : Nat) (c : Nat → Int) (kvs : List (List Key × D)), ds = [.int (p : Int), .int (b : Int), .int (e : Int), .ref a] ∧ G a = some (.dit kvs) ∧ TAw c (inA n s) kvs ∧ inA n s p b e ∧ e - b ≤ dp ∧ n ≤ 20 ∧ ∀ (q : Addr) (w : List Mv) (G' : Gp), G q = none → G' q = some (.lst (w.map mD)) → w.length < 2 ^ (e - b) → WOK b e p true w → LeastA c p b e (wk c w) → Grow G G' → R (.ref q) G'
noncomputable def S_left_way (T : Txt K mg) : Sp3 := S_left_way_r T 26
noncomputable def S_reached_way_r (_ : Txt K mg) (dp : Nat) : Sp3 := fun ds G R => ∃ (a t : Addr) (n s p b : Nat) (c : Nat → Int) (ka kt : List (List Key × D)), ds = [.int (p : Int), .int (b : Int), .int (n : Int), .ref a, .ref t] ∧ G a = some (.dit ka) ∧ G t = some (.dit kt) ∧ TAw c (inA n s) ka ∧ TRw c n (inR n s) kt ∧ inR n s p b ∧ n - b ≤ dp ∧ n ≤ 20 ∧ ∀ (q : Addr) (w : List Mv) (G' : Gp), G q = none → G' q = some (.lst (w.map mD)) → w.length < 2 ^ (n - b) → WOK b n p false w → LeastR c n p b (wk c w) → Grow G G' → R (.ref q) G'
noncomputable def S_reached_way (T : Txt K mg) : Sp3 := S_reached_way_r T 26
noncomputable def S_left_plan (_ : Txt K mg) : Sp3 := fun ds G R => ∃ (c : Addr) (s : Nat) (pl : List Int), ds = [.ref c, .int (s : Int)] ∧ G c = some (.lst (pl.map .int)) ∧ 1 ≤ pl.length ∧ pl.length ≤ 20 ∧ s ≤ 8 ∧ ∀ G', Grow G G' → (∀ (q : Addr) (P : List Pm), G q = none → G' q = some (.lst (P.map pmD)) → P.length ≤ 4000000 → PLN pl.length s true P → LeastA (cf pl) s 0 pl.length (wkp (cf pl) P) → R (.ref q) G') ∧ (¬ pl.length ≤ cap s true → R .non G')
noncomputable def S_shown_plan (_ : Txt K mg) : Sp3 := fun ds G R => ∃ (c : Addr) (s : Nat) (pl : List Int), ds = [.ref c, .int (s : Int)] ∧ G c = some (.lst (pl.map .int)) ∧ 1 ≤ pl.length ∧ pl.length ≤ 20 ∧ s ≤ 8 ∧ ∀ G', Grow G G' → (∀ (q : Addr) (P : List Pm) (W : Int), G q = none → G' q = some (.lst (P.map pmD)) → P.length ≤ 4000000 → PLN pl.length s false P → LeastR (cf pl) pl.length s 0 W → wkp (cf pl) P = W + W → R (.ref q) G') ∧ (¬ pl.length ≤ cap s false → R .non G')
noncomputable def S_law_behind (_ : Txt K mg) : Sp3 := fun ds G R => ∃ (a : Addr) (m : Nat) (p : Mv), ds = [.ref a, mD p] ∧ G a = some (.lst ((mks m).map .int)) ∧ okm m (some p) ∧ ∀ (q : Addr) (G' : Gp), G q = none → G' q = some (.lst ((mks (xr m p.2)).map .int)) → Grow G G' → R (.ref q) G'
noncomputable def S_law_one (_ : Txt K mg) : Sp3 := fun ds G R => ∃ (a : Addr) (m n s : Nat) (sh : Bool) (p : Pm), ds = [.ref a, .bl sh, pmD p, .int (n : Int), .int (s : Int)] ∧ G a = some (.lst ((mks m).map .int)) ∧ 1 ≤ n ∧ n ≤ 24 ∧ m < 2 ^ n ∧ ckp n s m sh [p] ∧ R (.bl true) G
noncomputable def S_law_pass (_ : Txt K mg) : Sp3 := fun ds G R => ∃ (a : Addr) (n s : Nat) (left : Bool) (P : List Pm), ds = [.ref a, .int (n : Int), .int (s : Int)] ∧ G a = some (.lst (P.map pmD)) ∧ PLN n s left P ∧ 1 ≤ n ∧ n ≤ 24 ∧ P.length ≤ 4000000 ∧ ∀ G', Grow G G' → R (.str (if left then "left" else "shown")) G'
noncomputable def S_law_work (_ : Txt K mg) : Sp3 := fun ds G R => ∃ (a b : Addr) (w : List Pm) (pl : List Int), ds = [.ref a, .ref b] ∧ G a = some (.lst (w.map pmD)) ∧ G b = some (.lst (pl.map .int)) ∧ w.length ≤ 4000000 ∧ (∀ p, some p ∈ w → 1 ≤ p.2 ∧ p.2 ≤ pl.length) ∧ ∀ G', Grow G G' → R (.int (wkp (cf pl) w)) G'
noncomputable def S_law_right (_ : Txt K mg) : Sp3 := fun ds G R => ∃ (c : Addr) (s : Nat) (pl : List Int) (left : Bool) (d : D) (x : Option Int), ds = [d, .str (if left then "left" else "shown"), .ref c, .int (s : Int), oD x] ∧ G c = some (.lst (pl.map .int)) ∧ 1 ≤ pl.length ∧ pl.length ≤ 20 ∧ ((d = .non ∧ x = none) ∨ ∃ (q : Addr) (P : List Pm), d = .ref q ∧ G q = some (.lst (P.map pmD)) ∧ P.length ≤ 4000000 ∧ PLN pl.length s left P ∧ x = some (wkp (cf pl) P)) ∧ ∀ G', Grow G G' → R (.bl true) G'
noncomputable def S_law_both (_ : Txt K mg) : Sp3 := fun ds G R => ∃ (c : Addr) (s : Nat) (pl : List Int), ds = [.ref c, .int (s : Int)] ∧ G c = some (.lst (pl.map .int)) ∧ 1 ≤ pl.length ∧ pl.length ≤ 20 ∧ s ≤ 8 ∧ ∀ G', Grow G G' → R (.bl true) G'
theorem c_tplan {G : Gp} {a : Addr} {w : List Pm} {q : DK} (h : G a = some (.lst (w.map pmD))) (hl : w.length ≤ 4000000) (k : ∀ q' G', G q' = none → G' q' = some (.lst ((bkp w).map pmD)) → Grow G G' → q (.ref q') G') : ∃ R, S_turned_plan T [.ref a] G R ∧ ∀ d G', R d G' → q d G' :=
  call_nd (post := fun d G' => ∃ q', d = .ref q' ∧ G q' = none ∧ G' q' = some (.lst ((bkp w).map pmD)) ∧ Grow G G') (fun R h' => ⟨a, w, rfl, h, hl, fun q' G' x y z => h' _ _ ⟨q', rfl, x, y, z⟩⟩) fun d G' ⟨q', e, x, y, z⟩ => by subst e; exact k q' G' x y z
theorem c_lway {G : Gp} {a : Addr} {n s p b e dp : Nat} {c : Nat → Int} {kvs : List (List Key × D)} {q : DK} (h : G a = some (.dit kvs)) (hT : TAw c (inA n s) kvs) (hi : inA n s p b e) (hd : e - b ≤ dp) (hn : n ≤ 20) (k : ∀ (q' : Addr) (w : List Mv) (G' : Gp), G q' = none → G' q' = some (.lst (w.map mD)) → w.length < 2 ^ (e - b) → WOK b e p true w → LeastA c p b e (wk c w) → Grow G G' → q (.ref q') G') : ∃ R, S_left_way_r T dp [.int (p : Int), .int (b : Int), .int (e : Int), .ref a] G R ∧ ∀ d G', R d G' → q d G' :=
  call_nd (post := fun d G' => ∃ (q' : Addr) (w : List Mv), d = .ref q' ∧ G q' = none ∧ G' q' = some (.lst (w.map mD)) ∧ w.length < 2 ^ (e - b) ∧ WOK b e p true w ∧ LeastA c p b e (wk c w) ∧ Grow G G') (fun R h' => ⟨a, n, s, p, b, e, c, kvs, rfl, h, hT, hi, hd, hn, fun q' w G' x y z u v t => h' _ _ ⟨q', w, rfl, x, y, z, u, v, t⟩⟩) fun d G' ⟨q', w, ed, x, y, z, u, v, t⟩ => by subst ed; exact k q' w G' x y z u v t
theorem c_rway {G : Gp} {a t : Addr} {n s p b dp : Nat} {c : Nat → Int} {ka kt : List (List Key × D)} {q : DK} (h : G a = some (.dit ka)) (ht : G t = some (.dit kt)) (hA : TAw c (inA n s) ka) (hT : TRw c n (inR n s) kt) (hi : inR n s p b) (hd : n - b ≤ dp) (hn : n ≤ 20) (k : ∀ (q' : Addr) (w : List Mv) (G' : Gp), G q' = none → G' q' = some (.lst (w.map mD)) → w.length < 2 ^ (n - b) → WOK b n p false w → LeastR c n p b (wk c w) → Grow G G' → q (.ref q') G') : ∃ R, S_reached_way_r T dp [.int (p : Int), .int (b : Int), .int (n : Int), .ref a, .ref t] G R ∧ ∀ d G', R d G' → q d G' :=
  call_nd (post := fun d G' => ∃ (q' : Addr) (w : List Mv), d = .ref q' ∧ G q' = none ∧ G' q' = some (.lst (w.map mD)) ∧ w.length < 2 ^ (n - b) ∧ WOK b n p false w ∧ LeastR c n p b (wk c w) ∧ Grow G G') (fun R h' => ⟨a, t, n, s, p, b, c, ka, kt, rfl, h, ht, hA, hT, hi, hd, hn, fun q' w G' x y z u v r => h' _ _ ⟨q', w, rfl, x, y, z, u, v, r⟩⟩) fun d G' ⟨q', w, ed, x, y, z, u, v, r⟩ => by subst ed; exact k q' w G' x y z u v r
theorem z_left_way {n : Nat} : Ok P w mg base n T.f_left_way (S_left_way_r T 0) := ok_false fun ds G R ⟨a, n, s, p, b, e, c, kvs, _, _, _, hi, h2, _⟩ => by have := hi.2.2.1; omega
theorem z_reached_way {n : Nat} : Ok P w mg base n T.f_reached_way (S_reached_way_r T 0) := ok_false fun ds G R ⟨a, t, n, s, p, b, c, ka, kt, _, _, _, _, _, hi, h2, _⟩ => by have := hi.2.2.1; omega
theorem c_lbehind {G : Gp} {a : Addr} {m : Nat} {p : Mv} {q : DK} (ha : G a = some (.lst ((mks m).map .int))) (hp : okm m (some p)) (k : ∀ (q' : Addr) (G' : Gp), G q' = none → G' q' = some (.lst ((mks (xr m p.2)).map .int)) → Grow G G' → q (.ref q') G') : ∃ R, S_law_behind T [.ref a, mD p] G R ∧ ∀ d G', R d G' → q d G' :=
  call_nd (post := fun d G' => ∃ q', d = .ref q' ∧ G q' = none ∧ G' q' = some (.lst ((mks (xr m p.2)).map .int)) ∧ Grow G G') (fun R h' => ⟨a, m, p, rfl, ha, hp, fun q' G' x y z => h' _ _ ⟨q', rfl, x, y, z⟩⟩) fun d G' ⟨q', e, x, y, z⟩ => by subst e; exact k q' G' x y z
theorem c_work {G : Gp} {a b : Addr} {w : List Pm} {pl : List Int} {q : DK} (h : G a = some (.lst (w.map pmD))) (hb : G b = some (.lst (pl.map .int))) (hn : w.length ≤ 4000000) (hp : ∀ p, some p ∈ w → 1 ≤ p.2 ∧ p.2 ≤ pl.length) (k : ∀ G', Grow G G' → q (.int (wkp (cf pl) w)) G') : ∃ R, S_law_work T [.ref a, .ref b] G R ∧ ∀ d G', R d G' → q d G' :=
  call_nd (post := fun d G' => d = .int (wkp (cf pl) w) ∧ Grow G G') (fun R h' => ⟨a, b, w, pl, rfl, h, hb, hn, hp, fun G' x => h' _ _ ⟨rfl, x⟩⟩) fun d G' ⟨e, x⟩ => by subst e; exact k G' x
theorem c_pass {G : Gp} {a : Addr} {n s : Nat} {left : Bool} {P : List Pm} {q : DK} (h : G a = some (.lst (P.map pmD))) (hP : PLN n s left P) (h1 : 1 ≤ n) (h2 : n ≤ 24) (hl : P.length ≤ 4000000) (k : ∀ G', Grow G G' → q (.str (if left then "left" else "shown")) G') : ∃ R, S_law_pass T [.ref a, .int (n : Int), .int (s : Int)] G R ∧ ∀ d G', R d G' → q d G' :=
  call_nd (post := fun d G' => d = .str (if left then "left" else "shown") ∧ Grow G G') (fun R h' => ⟨a, n, s, left, P, rfl, h, hP, h1, h2, hl, fun G' x => h' _ _ ⟨rfl, x⟩⟩) fun d G' ⟨e, x⟩ => by subst e; exact k G' x
theorem c_both {G : Gp} {c : Addr} {s : Nat} {pl : List Int} {q : DK} (h : G c = some (.lst (pl.map .int))) (h1 : 1 ≤ pl.length) (h2 : pl.length ≤ 20) (h3 : s ≤ 8) (k : ∀ (G' : Gp), Grow G G' → q (.bl true) G') : ∃ R, S_law_both T [.ref c, .int (s : Int)] G R ∧ ∀ d G', R d G' → q d G' :=
  call_nd (post := fun d G' => d = .bl true ∧ Grow G G') (fun R h' => ⟨c, s, pl, rfl, h, h1, h2, h3, fun G' u => h' _ _ ⟨rfl, u⟩⟩) fun d G' ⟨e, u⟩ => by subst e; exact k G' u
noncomputable def S_law (_ : Txt K mg) : Sp3 := fun ds G R => ∃ (a : Addr) (ns : List Int), ds = [.ref a] ∧ G a = some (.fro (ns.map .int)) ∧ ns.length ≤ 63 ∧ ∀ G', R (.bl true) G'
end
end Law

set_option compiler.extract_closed false
open PySem L2 L3 Rw in
set_option hygiene false in
local macro_rules | `(tactic| dsimp! only [$xs,*]) => `(tactic| try simp only [dComp, Int.toNat_natCast, dCall, dMeth, dMake, List.append_nil, dSeq, dNext, dAsg, dDrop, dRet, dRetN, dIfS, dB, dAnd, dOr, dNot, dAndV, dOrV, dNotV, dIf, dVar, dC, dOp, dUn, dNil, dCons, dTup, dLst, dCB, dSl, dPart, dNoPart, dBM, dBM0, dAug, dFld, dSetF, dAugF, dYes, jName, jSub, jSeq, jCons, jNil, wRng1, wRng2, wAny, dFor, xSub, xDiv, xMod, xPow, xShl, xShr, xAnd, xOr, xXor, kindD, tyD, startD, innerD, List.map_cons, List.map_nil, List.cons_append, List.nil_append, List.length_cons, List.length_nil, List.replicate, List.getElem?_cons_zero, List.getElem?_cons_succ, List.set_cons_zero, List.set_cons_succ, Nat.reduceAdd, Nat.reduceSub, Nat.sub_self, seqOf_lst, seqOf_fro, gup_same, Option.bind_some, Option.bind_none, id, Bool.false_eq_true, if_true, if_false, reduceIte, true_and, and_true, decide_true, decide_false, Bool.not_true, Bool.not_false, atI_0, atI_1, atI_2, atI_3, atI_4, ixN_30, ixN_31, ixN_32, ixN_20, ixN_21, xr_all, xs_all, dBack, $xs,*])
namespace Law
open PySem L2 L3 Rw
set_option maxHeartbeats 4000000
section
variable {P : Program} {w : World} {K : PySem.W.Frag} {mg : Str → Option Value} {base : Heap} (T : Txt K mg)
theorem ok_reach {n : Nat} : Ok P w mg base (n + 1) T.f_reach (S_reach T) := by
  refine def_ok T.f_reach sc_reach (fun ds G R h => ?_) (fun cdv A outer s H E hr =>
      (ss_one (s_ret (e_bin x_sub (e_bin x_shl e_int (ev 0)) e_int)))) (fun ds G R h => ?_)
  · obtain ⟨s, rfl, _⟩ := h; rfl
  · obtain ⟨s, rfl, hs, post⟩ := h
    have cp : CPow 1 (s : Int) := cpow_1 (by omega) (by omega)
    have e2 : (1 * 2 ^ s - 1 : Int) = (cap s false : Int) := by
      cases s with
      | zero => rfl
      | succ s =>
        have := Nat.two_pow_pos (s + 1)
        show _ = ((2 ^ (s + 1) - 1 : Nat) : Int)
        rw [Int.natCast_sub (by omega)]; simp
    dsimp! only [cp, e2]
    exact post
theorem ok_alone_reach {n : Nat} : Ok P w mg base (n + 1) T.f_alone_reach (S_alone_reach T) := by
  refine def_ok T.f_alone_reach sc_alone_reach (fun ds G R h => ?_) (fun cdv A outer s H E hr =>
      (ss_one (s_ret (e_if (t_cmp (x_gt) (ev 0) e_int (nomark _)) (e_bin x_shl e_int (e_bin x_sub (ev 0) e_int)) e_int)))) (fun ds G R h => ?_)
  · obtain ⟨s, rfl, _⟩ := h; rfl
  · obtain ⟨s, rfl, hs, post⟩ := h
    cases s with
    | zero =>
      dsimp! only [id]
      exact post
    | succ s =>
      have e1 : ((s + 1 : Nat) : Int) - 1 = (s : Int) := by omega
      have cp : CPow 1 (s : Int) := cpow_1 (by omega) (by omega)
      have p0 : ((0 : Int) < ((s + 1 : Nat) : Int)) = True := eq_true (by omega)
      have e2 : (1 * 2 ^ s : Int) = (cap (s + 1) true : Int) := by show _ = ((2 ^ s : Nat) : Int); simp
      dsimp! only [p0, e1, cp, e2]
      exact post
theorem ok_alone_by {n : Nat} : Ok P w mg base (n + 1) T.f_alone_by (S_alone_by T) := by
  refine def_ok T.f_alone_by sc_alone_by (fun ds G R h => ?_) (fun cdv A outer s H E hr =>
      (ss_one (s_ret (e_bin x_add (e_bin x_add (e_ix x_ix (e_dgetD hr (ev 4) (e_tup (a_cons (ev 0) (a_cons (ev 1) (a_cons (ev 2) a_nil))))) e_int) (e_ix x_ix (e_dgetD hr (ev 4) (e_tup (a_cons (e_bin x_sub (ev 0) e_int) (a_cons (ev 2) (a_cons (ev 3) a_nil))))) e_int)) (e_ix x_ix (e_dgetD hr (ev 4) (e_tup (a_cons (e_bin x_sub (ev 0) e_int) (a_cons (ev 1) (a_cons (ev 2) a_nil))))) e_int))))) (fun ds G R h => ?_)
  · obtain ⟨a, p, b, m, e, kvs, w1, w2, w3, m1, m2, m3, rfl, _⟩ := h; rfl
  · obtain ⟨a, p, b, m, e, kvs, w1, w2, w3, m1, m2, m3, rfl, ha, hp, e1, e2, e3, post⟩ := h
    have ep : (p : Int) - 1 = ((p - 1 : Nat) : Int) := by omega
    dsimp! only [dGetD, ep]
    refine ⟨by decide, a, kvs, k3 p b m, _, rfl, rfl, ha, e1, ?_⟩
    dsimp! only [dGetD, vD, ep]
    refine ⟨by decide, a, kvs, k3 (p - 1) m e, _, rfl, rfl, ha, e2, ?_⟩
    dsimp! only [dGetD, vD, ep]
    refine ⟨by decide, a, kvs, k3 (p - 1) b m, _, rfl, rfl, ha, e3, ?_⟩
    dsimp! only [dGetD, vD, ep]
    exact post
theorem ok_least_alone {n : Nat} (G_alone_reach : Ok P w mg base n T.f_alone_reach (S_alone_reach T)) (G_alone_by : Ok P w mg base n T.f_alone_by (S_alone_by T)) : Ok P w mg base (n + 1) T.f_least_alone (S_least_alone T) := by
  refine def_ok T.f_least_alone sc_least_alone (fun ds G R h => ?_) (fun cdv A outer s H E hr =>
      (ss_cons (s_if (t_cmp (x_eq hr) (e_bin x_sub (ev 3) (ev 2)) e_int (nomark _)) (ss_one (s_ret (e_tup (a_cons (e_ix x_ix (ev 0) (ev 2)) (a_cons (ev 3) a_nil))))) ss_nil)
      (ss_cons (s_set 5 sc_least_alone.nd (ec T.f_alone_reach T.g_alone_reach G_alone_reach hr (a_cons (e_bin x_sub (ev 1) e_int) a_nil)))
      (ss_cons (s_set 6 sc_least_alone.nd (e_listRng hr rfl T.b_range rfl T.b_list (a_cons (e_callB x_max2 rfl T.b_max (by decide +kernel) (a_cons (e_bin x_add (ev 2) e_int) (a_cons (e_bin x_sub (ev 3) (ev 5)) a_nil))) (a_cons (e_bin x_add (e_callB x_min2 rfl T.b_min (by decide +kernel) (a_cons (e_bin x_sub (ev 3) e_int) (a_cons (e_bin x_add (ev 2) (ev 5)) a_nil))) e_int) a_nil))))
      (ss_one (s_ret (e_callB (x_minP hr) rfl T.b_min (by decide +kernel) (a_cons (e_comp (N' := ["middle", "places", "begin", "end", "table"]) (ix := [none, some 1, some 2, some 3, some 4]) (blk (osc := defScope s_least_alone) (N := ["costs", "places", "begin", "end", "table", "most", "middles"]) rfl rfl (by decide +kernel)) (i_any (ev 6)) (fun _ _ _ _ => (j_name 0 (show (["middle", "places", "begin", "end", "table"] : List Str).Nodup by decide +kernel))) (fun _ _ _ _ => ifs_nil) (fun _ _ _ _ => (e_tup (a_cons (ec T.f_alone_by T.g_alone_by G_alone_by hr (a_cons (ev 1) (a_cons (ev 2) (a_cons (ev 0) (a_cons (ev 3) (a_cons (ev 4) a_nil)))))) (a_cons (ev 0) a_nil))))) a_nil)))))))) (fun ds G R h => ?_)
  · obtain ⟨c, a, p, b, e, pl, kvs, Dm, rfl, _⟩ := h; rfl
  · obtain ⟨c, a, p, b, e, pl, kvs, Dm, rfl, hc, ha, hT, hp, hp2, hb, he, hl, hcap, dl, dh, post⟩ := h
    by_cases h1 : e - b = 1
    · have e1 : (e : Int) - (b : Int) = 1 := by omega
      dsimp! only [e1, hc, seqOf]
      have hbl : b < pl.length := by omega
      rw [show atI (pl.map D.int) (b : Int) = some (.int pl[b]) from atI_nat (by simp [hbl])]
      refine ⟨by decide, post _ e G .refl ?_⟩
      have e3 : e = b + 1 := by omega
      subst e3
      obtain ⟨r, rfl⟩ : ∃ r, p = r + 1 := ⟨p - 1, by omega⟩
      rw [← cf_at hbl]
      exact ⟨LeastA.one, by unfold mA; rw [if_pos (by omega)], fun h => absurd (by omega) h⟩
    · have e1 : ¬ ((e : Int) - (b : Int) = 1) := by omega
      have hp1 : 2 ≤ p := by
        rcases Nat.lt_or_ge p 2 with h | h
        · have : p = 1 := by omega
          subst this
          rw [cap_one] at hcap
          omega
        · exact h
      have ep : (p : Int) - 1 = ((p - 1 : Nat) : Int) := by omega
      dsimp! only [ep]
      rw [if_neg (by simpa using e1)]
      (simp only [Go]; dsimp! only [ep])
      refine c_areach T (by omega) ?_
      (simp only [Go]; dsimp! only [dListRng])
      have hc2 := (cap_two hp1).1
      obtain ⟨L, C, eL, eC, hm, hL1, hh1, hh2⟩ := mid_lem (b := b) (e := e) (x := cap (p - 1) true) (y := cap (p - 1) true) (by omega) (by omega) (cap_pos (by omega)) (cap_pos (by omega))
      rw [eL, eC]
      refine ⟨⟨by omega, by omega, by omega, by omega⟩, fun l hll => ?_⟩
      obtain ⟨G1, hG1⟩ : ∃ G1, G1 = gup G l (.lst (rngD (L : Int) (C + 1))) := ⟨_, rfl⟩
      have g1 : Grow G G1 := by rw [hG1]; exact Grow.refl.new hll
      have kl : G1 l = some (.lst (rngD (L : Int) (C + 1))) := by rw [hG1]; exact gup_same
      rw [← hG1]
      (simp only [Go]; dsimp! only [kl, seqOf])
      intro q hq
      have kl2 : ∀ {o : DO}, gup G1 q o l = some (.lst (rngD (L : Int) (C + 1))) := fun {o} => by rw [gup_ne (gne kl hq)]; exact kl
      have ka2 : ∀ {o : DO}, gup G1 q o a = some (.dit kvs) := fun {o} => by rw [gup_ne (gne (g1.kp _ _ ha) hq)]; exact g1.kp _ _ ha
      refine compL_ind (fun r σ G' => ∃ (i n : Nat) (ts : List (List Int)) (v : Option D), i + n = C + 1 ∧ r = rngD ((L + i : Nat) : Int) n ∧ G' = gup G1 q (.lst (ts.map fun t => .tup (t.map .int))) ∧ ts.length = i ∧ (∀ t ∈ ts, ∃ (W : Int) (m : Nat), t = [W, (m : Int)] ∧ ∃ w1 w2 w3, LeastA (cf pl) p b m w1 ∧ LeastA (cf pl) (p - 1) m e w2 ∧ LeastA (cf pl) (p - 1) b m w3 ∧ W = w1 + w2 + w3) ∧ (∀ j, L ≤ j → j < L + i → ∃ W : Int, [W, (j : Int)] ∈ ts) ∧ σ = [v, some (.int (p : Int)), some (.int (b : Int)), some (.int (e : Int)), some (.ref a)]) ⟨0, C + 1, [], none, by omega, rfl, rfl, rfl, by simp, fun j x y => by omega, rfl⟩ ?_ ?_
      · rintro σ G' ⟨i, n, ts, v, e1, e2, rfl, hl2, hts, hall, rfl⟩
        have hn0 : n = 0 := by
          cases n with
          | zero => rfl
          | succ n => rw [rngD_succ] at e2; cases e2
        refine ⟨by rw [kl2], q, ts, rfl, by rw [gup_same]; rfl, by omega, fun t ht hmin => ?_⟩
        obtain ⟨W, m, rfl, w1, w2, w3, q1, q2, q3, rfl⟩ := hts t ht
        refine post _ m _ (g1.new hq) ?_
        have hless : ∀ (m' : Nat), b < m' → m' < e → m' - b ≤ cap (p - 1) true → e - m' ≤ cap (p - 1) true → ∃ u1 u2 u3, LeastA (cf pl) p b m' u1 ∧ LeastA (cf pl) (p - 1) m' e u2 ∧ LeastA (cf pl) (p - 1) b m' u3 ∧ w1 + w2 + w3 ≤ u1 + u2 + u3 := by
          intro m' y1 y2 y3 y4
          have z : L ≤ m' ∧ m' < L + (C + 1) := by
            split at eL <;> split at eC <;> omega
          obtain ⟨W', hW'⟩ := hall m' z.1 (by omega)
          obtain ⟨W2, m2, e4, u1, u2, u3, r1, r2, r3, rfl⟩ := hts _ hW'
          have e5 : W' = u1 + u2 + u3 ∧ m' = m2 := by simp at e4; omega
          obtain ⟨e6, e7⟩ := e5
          subst e6; subst e7
          refine ⟨u1, u2, u3, r1, r2, r3, lex_le (hmin _ hW')⟩
        have fin : ∀ r, p = r + 1 → LeastA (cf pl) p b e (w1 + w2 + w3) := by
          intro r hr
          subst hr
          exact LeastA.two (by omega) ⟨m, w1, w2, w3, q1, q2, q3, rfl⟩ hless
        refine ⟨fin (p - 1) (by omega), ?_, fun _ => ⟨w1, w2, w3, q1, q2, q3, rfl⟩⟩
        unfold mA
        rw [if_neg h1]
        exact ⟨hp1, q1.1.lt.1, q2.1.lt.1, q3.1.cap, q2.1.cap⟩
      · rintro z r σ G' ⟨i, n, ts, v, e1, e2, rfl, hl2, hts, hall, rfl⟩ ih
        cases n with
        | zero => cases e2
        | succ n =>
          rw [rngD_succ] at e2
          cases e2
          have hmi := hm (L + i) (by omega) (by omega)
          refine ⟨by rw [kl2], ?_⟩
          dsimp! only [id]
          obtain ⟨w1, m1, v1, q1, _⟩ := (hT p b (L + i)).1 (dh _ _ hmi.1 (by omega) (by omega) (by omega))
          obtain ⟨w2, m2, v2, q2, _⟩ := (hT (p - 1) (L + i) e).1 (dl _ _ hp1 hmi.2.1 (by omega) hmi.2.2.2)
          obtain ⟨w3, m3, v3, q3, _⟩ := (hT (p - 1) b (L + i)).1 (dl _ _ hp1 hmi.1 (by omega) hmi.2.2.1)
          refine call_det (v := .int (w1 + w2 + w3)) (G1 := gup G1 q (.lst (ts.map fun t => .tup (t.map .int)))) (fun R h => ⟨a, p, b, L + i, e, kvs, w1, w2, w3, m1, m2, m3, rfl, ka2, hp, v1, v2, v3, h⟩) ?_
          dsimp! only [gup_same, gup_gup]
          refine ⟨by decide, by rw [List.length_map]; exact Nat.lt_of_le_of_lt (m := 1000000) (by omega) (by decide), ih _ _ ⟨i + 1, n, ts ++ [[w1 + w2 + w3, ((L + i : Nat) : Int)]], _, by omega, ?_, ?_, by simp [hl2], ?_, ?_, rfl⟩⟩
          · congr 1
          · rw [List.map_append]; rfl
          · intro t ht
            rcases List.mem_append.mp ht with h | h
            · exact hts t h
            · cases List.mem_singleton.mp h
              exact ⟨_, L + i, rfl, w1, w2, w3, q1, q2, q3, rfl⟩
          · intro j x y
            rcases Nat.lt_or_ge j (L + i) with h | h
            · obtain ⟨W, hW⟩ := hall j x h
              exact ⟨W, List.mem_append_left _ hW⟩
            · have : j = L + i := by omega
              subst this
              exact ⟨_, List.mem_append_right _ (List.mem_singleton.mpr rfl)⟩
theorem ok_alone_table {n : Nat} (G_alone_reach : Ok P w mg base n T.f_alone_reach (S_alone_reach T)) (G_least_alone : Ok P w mg base n T.f_least_alone (S_least_alone T)) : Ok P w mg base (n + 1) T.f_alone_table (S_alone_table T) := by
  refine def_ok T.f_alone_table sc_alone_table (fun ds G R h => ?_) (fun cdv A outer s H E hr =>
      (ss_cons (s_set 2 sc_alone_table.nd e_dnewT)
      (ss_cons (s_for (i_rng2 rfl T.b_range (a_cons e_int (a_cons (e_bin x_add (ev 1) e_int) a_nil))) (j_name 3 sc_alone_table.nd) (ss_one (s_for (i_rng2 rfl T.b_range (a_cons e_int (a_cons (e_bin x_add (e_callB x_min2 rfl T.b_min (by decide +kernel) (a_cons (e_callB x_len rfl T.b_len (by decide +kernel) (a_cons (ev 0) a_nil)) (a_cons (ec T.f_alone_reach T.g_alone_reach G_alone_reach hr (a_cons (ev 3) a_nil)) a_nil))) e_int) a_nil))) (j_name 4 sc_alone_table.nd) (ss_one (s_for (i_rng1 rfl T.b_range (a_cons (e_bin x_add (e_bin x_sub (e_callB x_len rfl T.b_len (by decide +kernel) (a_cons (ev 0) a_nil)) (ev 4)) e_int) a_nil)) (j_name 5 sc_alone_table.nd) (ss_one (s_dputD hr (ev 2) (a_cons (ev 3) (a_cons (ev 5) (a_cons (e_bin x_add (ev 5) (ev 4)) a_nil))) (ec T.f_least_alone T.g_least_alone G_least_alone hr (a_cons (ev 0) (a_cons (ev 3) (a_cons (ev 5) (a_cons (e_bin x_add (ev 5) (ev 4)) (a_cons (ev 2) a_nil)))))))))))))
      (ss_one (s_ret (ev 2)))))) (fun ds G R h => ?_)
  · obtain ⟨c, s, pl, rfl, _⟩ := h; rfl
  · obtain ⟨c, s, pl, rfl, hc, hl1, hl, hs, post⟩ := h
    dsimp! only [dNewD]
    intro q hq
    have hcq : c ≠ q := gne hc hq
    (simp only [Go]; dsimp! only [id])
    rw [show ((s : Int) + 1 - 1).toNat = s by omega]
    refine ⟨⟨by decide, by decide, by omega, by omega⟩, ?_⟩
    refine forL_ind (fun r σ G' => ∃ (P k : Nat) (kvs : List (List Key × D)) (v3 v4 v5 : Option D), 1 ≤ P ∧ P + k = s + 1 ∧ r = rngD (P : Int) k ∧ Grow G G' ∧ G' q = some (.dit kvs) ∧ TAw (cf pl) (upA pl.length P 1 0) kvs ∧ kvs.length ≤ (P * 32 + 1) * 32 ∧ σ = [some (.ref c), some (.int (s : Int)), some (.ref q), v3, v4, v5]) ⟨1, s, [], none, none, none, by omega, by omega, rfl, Grow.refl.new hq, gup_same, ?_, by simp, rfl⟩ ?_ ?_
    · intro p b e
      refine ⟨fun h => ?_, fun _ => rfl⟩
      obtain ⟨⟨x1, x2, x3, _⟩, x4⟩ := h
      omega
    · rintro σ G1 ⟨P, k, kvs, v3, v4, v5, hP, hk, e2, g1, k1, hT, hlen, rfl⟩
      have hk0 : k = 0 := by
        cases k with
        | zero => rfl
        | succ n => rw [rngD_succ] at e2; cases e2
      refine ⟨trivial, ?_⟩
      (simp only [Go]; dsimp! only [id])
      refine post q kvs G1 hq k1 (hT.congr fun p b e => ?_) g1
      have : P = s + 1 := by omega
      subst this
      unfold upA inA
      constructor
      · rintro ⟨⟨x1, x2, x3, x4, x5⟩, x6⟩
        exact ⟨x1, by omega, x3, x4, x5⟩
      · rintro ⟨x1, x2, x3, x4, x5⟩
        exact ⟨⟨x1, by omega, x3, x4, x5⟩, by omega⟩
    · rintro z r σ G1 ⟨P, k, kvs, v3, v4, v5, hP, hk, e2, g1, k1, hT, hlen, rfl⟩ ih
      cases k with
      | zero => cases e2
      | succ k =>
        rw [rngD_succ] at e2
        cases e2
        refine ⟨trivial, ?_⟩
        dsimp! only [g1.kp _ _ hc, seqOf, List.length_map]
        refine c_areach T (by omega) ?_
        dsimp! only [id]
        obtain ⟨K, hK, hK1, hK2, hK3⟩ : ∃ K : Nat, (if ((cap P true : Nat) : Int) < (pl.length : Int) then ((cap P true : Nat) : Int) else (pl.length : Int)) = (K : Int) ∧ K ≤ pl.length ∧ K ≤ cap P true ∧ ∀ x, x ≤ pl.length → x ≤ cap P true → x ≤ K := by
          refine ⟨min (cap P true) pl.length, ?_, by omega, by omega, by omega⟩
          split <;> omega
        rw [hK, show ((K : Int) + 1 - 1).toNat = K by omega]
        refine ⟨⟨by decide, by decide, by omega, by omega⟩, ?_⟩
        refine forL_ind (fun r σ G' => ∃ (M k : Nat) (kvs : List (List Key × D)) (v4 v5 : Option D), 1 ≤ M ∧ M + k = K + 1 ∧ r = rngD (M : Int) k ∧ Grow G G' ∧ G' q = some (.dit kvs) ∧ TAw (cf pl) (upA pl.length P M 0) kvs ∧ kvs.length ≤ (P * 32 + M) * 32 ∧ σ = [some (.ref c), some (.int (s : Int)), some (.ref q), some (.int (P : Int)), v4, v5]) ⟨1, K, kvs, v4, v5, by omega, by omega, rfl, g1, k1, hT, by omega, rfl⟩ ?_ ?_
        · rintro σ G2 ⟨M, k2, kv2, v4, v5, hM, hk2, e2, g2, k2', hT2, hlen2, rfl⟩
          have hk0 : k2 = 0 := by
            cases k2 with
            | zero => rfl
            | succ n => rw [rngD_succ] at e2; cases e2
          refine ⟨trivial, ih _ _ ⟨P + 1, k, kv2, _, _, _, by omega, by omega, by congr 1, g2, k2', hT2.congr fun p b e => ?_, by omega, rfl⟩⟩
          unfold upA inA
          constructor
          · rintro ⟨⟨x1, x2, x3, x4, x5⟩, x6⟩
            exact ⟨⟨x1, by omega, x3, x4, x5⟩, by omega⟩
          · rintro ⟨⟨x1, x2, x3, x4, x5⟩, x6⟩
            have hp : p ≤ P := by omega
            refine ⟨⟨x1, hp, x3, x4, x5⟩, ?_⟩
            rcases Nat.lt_or_ge p P with h | h
            · exact .inl h
            · have : p = P := by omega
              subst this
              have := hK3 (e - b) (by omega) x5
              exact .inr (.inl (by omega))
        · rintro z r σ G2 ⟨M, k2, kv2, v4, v5, hM, hk2, e2, g2, k2', hT2, hlen2, rfl⟩ ih2
          cases k2 with
          | zero => cases e2
          | succ k2 =>
            rw [rngD_succ] at e2
            cases e2
            refine ⟨trivial, ?_⟩
            dsimp! only [g2.kp _ _ hc, seqOf, List.length_map]
            obtain ⟨Q, hQ⟩ : ∃ Q : Nat, pl.length = M + Q := ⟨pl.length - M, by omega⟩
            rw [show ((pl.length : Int) - (M : Int) + 1).toNat = Q + 1 by omega]
            refine ⟨by omega, ?_⟩
            refine forL_ind (fun r σ G' => ∃ (B k : Nat) (kvs : List (List Key × D)) (v5 : Option D), B + k = Q + 1 ∧ r = rngD (B : Int) k ∧ Grow G G' ∧ G' q = some (.dit kvs) ∧ TAw (cf pl) (upA pl.length P M B) kvs ∧ kvs.length ≤ (P * 32 + M) * 32 + B ∧ σ = [some (.ref c), some (.int (s : Int)), some (.ref q), some (.int (P : Int)), some (.int (M : Int)), v5]) ⟨0, Q + 1, kv2, v5, by omega, rfl, g2, k2', hT2, by omega, rfl⟩ ?_ ?_
            · rintro σ G3 ⟨B, k3', kv3, v5, hk3, e2, g3, k3'', hT3, hlen3, rfl⟩
              have hk0 : k3' = 0 := by
                cases k3' with
                | zero => rfl
                | succ n => rw [rngD_succ] at e2; cases e2
              refine ⟨trivial, ih2 _ _ ⟨M + 1, k2, kv3, _, _, by omega, by omega, by congr 1, g3, k3'', hT3.congr fun p b e => ?_, by omega, rfl⟩⟩
              unfold upA inA
              constructor
              · rintro ⟨⟨x1, x2, x3, x4, x5⟩, x6⟩
                exact ⟨⟨x1, x2, x3, x4, x5⟩, by omega⟩
              · rintro ⟨⟨x1, x2, x3, x4, x5⟩, x6⟩
                exact ⟨⟨x1, x2, x3, x4, x5⟩, by omega⟩
            · rintro z r σ G3 ⟨B, k3', kv3, v5, hk3, e2, g3, k3'', hT3, hlen3, rfl⟩ ih3
              cases k3' with
              | zero => cases e2
              | succ k3' =>
                rw [rngD_succ] at e2
                cases e2
                refine ⟨trivial, ?_⟩
                have eBM : (B : Int) + (M : Int) = ((B + M : Nat) : Int) := by omega
                dsimp! only [dPutD, eBM]
                refine call_nd (post := fun d G' => ∃ (W : Int) (m : Nat), d = vD W m ∧ Grow G3 G' ∧ VA (cf pl) P B (B + M) W m) (fun R h => ⟨c, q, P, B, B + M, pl, kv3, _, rfl, g3.kp _ _ hc, k3'', hT3, hP, by omega, by omega, by omega, hl, by omega, ?_, ?_, fun W m G' x1 x2 => h _ _ ⟨W, m, rfl, x1, x2⟩⟩) ?_
                · intro b' e' x1 x2 x3 x4
                  exact ⟨⟨by omega, by omega, x2, x3, x4⟩, .inl (by omega)⟩
                · intro b' e' x2 x3 x4 x5
                  exact ⟨⟨by omega, by omega, x2, x3, x5⟩, .inr (.inl (by omega))⟩
                rintro d G4 ⟨W, m, rfl, g4, hm⟩
                dsimp! only [eBM]
                have hnot : ¬ upA pl.length P M B P B (B + M) := by
                  rintro ⟨_, x⟩
                  omega
                refine ⟨q, kv3, k3 P B (B + M), rfl, rfl, by decide, g4.kp _ _ k3'', Nat.lt_of_le_of_lt (m := 1000000) (by omega) (by decide), ih3 _ _ ⟨B + 1, k3', _, _, by omega, by congr 1, (g3.trans g4).own hq, gup_same, (hT3.put hnot hm).congr fun p b e => ?_, ?_, rfl⟩⟩
                · rw [upA_next]
                  constructor
                  · rintro (x | ⟨rfl, rfl, rfl⟩)
                    · exact .inl x
                    · exact .inr ⟨rfl, rfl, rfl, by omega, by omega, by omega, by omega, by omega⟩
                  · rintro (x | ⟨x1, x2, x3, _⟩)
                    · exact .inl x
                    · exact .inr ⟨x1, x2, x3⟩
                · rw [len_put ((hT3 P B (B + M)).2 hnot)]
                  omega
theorem ok_least_reached {n : Nat} (G_reach : Ok P w mg base n T.f_reach (S_reach T)) (G_alone_reach : Ok P w mg base n T.f_alone_reach (S_alone_reach T)) : Ok P w mg base (n + 1) T.f_least_reached (S_least_reached T) := by
  refine def_ok T.f_least_reached sc_least_reached (fun ds G R h => ?_) (fun cdv A outer s H E hr =>
      (ss_cons (s_set 5 sc_least_reached.nd (e_callB x_len rfl T.b_len (by decide +kernel) (a_cons (ev 0) a_nil)))
      (ss_cons (s_if (t_cmp (x_eq hr) (e_bin x_sub (ev 5) (ev 2)) e_int (nomark _)) (ss_one (s_ret (e_tup (a_cons (e_ix x_ix (ev 0) (ev 2)) (a_cons (ev 5) a_nil))))) ss_nil)
      (ss_cons (s_set 6 sc_least_reached.nd (e_listRng hr rfl T.b_range rfl T.b_list (a_cons (e_callB x_max2 rfl T.b_max (by decide +kernel) (a_cons (e_bin x_add (ev 2) e_int) (a_cons (e_bin x_sub (ev 5) (ec T.f_reach T.g_reach G_reach hr (a_cons (e_bin x_sub (ev 1) e_int) a_nil))) a_nil))) (a_cons (e_bin x_add (e_callB x_min2 rfl T.b_min (by decide +kernel) (a_cons (e_bin x_sub (ev 5) e_int) (a_cons (e_bin x_add (ev 2) (ec T.f_alone_reach T.g_alone_reach G_alone_reach hr (a_cons (ev 1) a_nil))) a_nil))) e_int) a_nil))))
      (ss_one (s_ret (e_callB (x_minP hr) rfl T.b_min (by decide +kernel) (a_cons (e_comp (N' := ["middle", "alones", "places", "begin", "table"]) (ix := [none, some 3, some 1, some 2, some 4]) (blk (osc := defScope s_least_reached) (N := ["costs", "places", "begin", "alones", "table", "end", "middles"]) rfl rfl (by decide +kernel)) (i_any (ev 6)) (fun _ _ _ _ => (j_name 0 (show (["middle", "alones", "places", "begin", "table"] : List Str).Nodup by decide +kernel))) (fun _ _ _ _ => ifs_nil) (fun _ _ _ _ => (e_tup (a_cons (e_bin x_add (e_ix x_ix (e_dgetD hr (ev 1) (e_tup (a_cons (ev 2) (a_cons (ev 3) (a_cons (ev 0) a_nil))))) e_int) (e_ix x_ix (e_dgetD hr (ev 4) (e_tup (a_cons (e_bin x_sub (ev 2) e_int) (a_cons (ev 0) a_nil)))) e_int)) (a_cons (ev 0) a_nil))))) a_nil)))))))) (fun ds G R h => ?_)
  · obtain ⟨c, a, t, p, b, s, pl, ka, kt, Dm, rfl, _⟩ := h; rfl
  · obtain ⟨c, a, t, p, b, s, pl, ka, kt, Dm, rfl, hc, ha, ht, hA, hT, hp, hps, hs, hb, hl, hcap, dl, post⟩ := h
    by_cases h1 : pl.length - b = 1
    · have e1 : (pl.length : Int) - (b : Int) = 1 := by omega
      dsimp! only [hc, seqOf, List.length_map]
      (simp only [Go]; dsimp! only [e1, hc, seqOf])
      rw [show atI (pl.map D.int) (b : Int) = some (.int pl[b]) from atI_nat (by simp [hb])]
      refine ⟨by decide, post _ pl.length G .refl ?_⟩
      have e3 : pl.length = b + 1 := by omega
      obtain ⟨r, rfl⟩ : ∃ r, p = r + 1 := ⟨p - 1, by omega⟩
      rw [← cf_at hb, e3]
      exact ⟨LeastR.one, by unfold mR; rw [if_pos (by omega)], fun h => absurd (by omega) h⟩
    · have e1 : ¬ ((pl.length : Int) - (b : Int) = 1) := by omega
      have hp1 : 2 ≤ p := by
        rcases Nat.lt_or_ge p 2 with h | h
        · have : p = 1 := by omega
          subst this
          rw [cap_one] at hcap
          omega
        · exact h
      have ep : (p : Int) - 1 = ((p - 1 : Nat) : Int) := by omega
      dsimp! only [hc, seqOf, List.length_map]
      (simp only [Go]; dsimp! only [id])
      rw [if_neg (by simpa using e1)]
      (simp only [Go]; dsimp! only [dListRng, ep])
      refine c_reach T (by omega) ?_
      dsimp! only [id]
      refine c_areach T (by omega) ?_
      dsimp! only [id]
      have hc2 := (cap_two hp1).2
      obtain ⟨L, C, eL, eC, hm, hL1, hh1, hh2⟩ := mid_lem (b := b) (e := pl.length) (x := cap p true) (y := cap (p - 1) false) (by omega) (by omega) (cap_pos (by omega)) (cap_pos (by omega))
      rw [eL, eC]
      refine ⟨⟨by omega, by omega, by omega, by omega⟩, fun l hll => ?_⟩
      obtain ⟨G1, hG1⟩ : ∃ G1, G1 = gup G l (.lst (rngD (L : Int) (C + 1))) := ⟨_, rfl⟩
      have g1 : Grow G G1 := by rw [hG1]; exact Grow.refl.new hll
      have kl : G1 l = some (.lst (rngD (L : Int) (C + 1))) := by rw [hG1]; exact gup_same
      rw [← hG1]
      (simp only [Go]; dsimp! only [kl, seqOf])
      intro q hq
      have kl2 : ∀ {o : DO}, gup G1 q o l = some (.lst (rngD (L : Int) (C + 1))) := fun {o} => by rw [gup_ne (gne kl hq)]; exact kl
      have ka2 : ∀ {o : DO}, gup G1 q o a = some (.dit ka) := fun {o} => by rw [gup_ne (gne (g1.kp _ _ ha) hq)]; exact g1.kp _ _ ha
      have kt2 : ∀ {o : DO}, gup G1 q o t = some (.dit kt) := fun {o} => by rw [gup_ne (gne (g1.kp _ _ ht) hq)]; exact g1.kp _ _ ht
      refine compL_ind (fun r σ G' => ∃ (i n : Nat) (ts : List (List Int)) (v : Option D), i + n = C + 1 ∧ r = rngD ((L + i : Nat) : Int) n ∧ G' = gup G1 q (.lst (ts.map fun t => .tup (t.map .int))) ∧ ts.length = i ∧ (∀ t ∈ ts, ∃ (W : Int) (m : Nat), t = [W, (m : Int)] ∧ ∃ w1 w2, LeastA (cf pl) p b m w1 ∧ LeastR (cf pl) pl.length (p - 1) m w2 ∧ W = w1 + w2) ∧ (∀ j, L ≤ j → j < L + i → ∃ W : Int, [W, (j : Int)] ∈ ts) ∧ σ = [v, some (.ref a), some (.int (p : Int)), some (.int (b : Int)), some (.ref t)]) ⟨0, C + 1, [], none, by omega, rfl, rfl, rfl, by simp, fun j x y => by omega, rfl⟩ ?_ ?_
      · rintro σ G' ⟨i, n, ts, v, e1, e2, rfl, hl2, hts, hall, rfl⟩
        have hn0 : n = 0 := by
          cases n with
          | zero => rfl
          | succ n => rw [rngD_succ] at e2; cases e2
        refine ⟨by rw [kl2], q, ts, rfl, by rw [gup_same]; rfl, by omega, fun t ht hmin => ?_⟩
        obtain ⟨W, m, rfl, w1, w2, q1, q2, rfl⟩ := hts t ht
        refine post _ m _ (g1.new hq) ?_
        have hless : ∀ (m' : Nat), b < m' → m' < pl.length → m' - b ≤ cap p true → pl.length - m' ≤ cap (p - 1) false → ∃ u1 u2, LeastA (cf pl) p b m' u1 ∧ LeastR (cf pl) pl.length (p - 1) m' u2 ∧ w1 + w2 ≤ u1 + u2 := by
          intro m' y1 y2 y3 y4
          have z : L ≤ m' ∧ m' < L + (C + 1) := by
            split at eL <;> split at eC <;> omega
          obtain ⟨W', hW'⟩ := hall m' z.1 (by omega)
          obtain ⟨W2, m2, e4, u1, u2, r1, r2, rfl⟩ := hts _ hW'
          have e5 : W' = u1 + u2 ∧ m' = m2 := by simp at e4; omega
          obtain ⟨e6, e7⟩ := e5
          subst e6; subst e7
          refine ⟨u1, u2, r1, r2, lex_le (hmin _ hW')⟩
        have fin : ∀ r, p = r + 1 → LeastR (cf pl) pl.length p b (w1 + w2) := by
          intro r hr
          subst hr
          exact LeastR.two (by omega) ⟨m, w1, w2, q1, q2, rfl⟩ hless
        refine ⟨fin (p - 1) (by omega), ?_, fun _ => ⟨w1, w2, q1, q2, rfl⟩⟩
        unfold mR
        rw [if_neg h1]
        exact ⟨hp1, q1.1.lt.1, q2.1.lt.1, q1.1.cap, q2.1.cap⟩
      · rintro z r σ G' ⟨i, n, ts, v, e1, e2, rfl, hl2, hts, hall, rfl⟩ ih
        cases n with
        | zero => cases e2
        | succ n =>
          rw [rngD_succ] at e2
          cases e2
          have hmi := hm (L + i) (by omega) (by omega)
          refine ⟨by rw [kl2], ?_⟩
          obtain ⟨w1, m1, v1, q1, _⟩ := (hA p b (L + i)).1 ⟨hp, hps, hmi.1, by omega, hmi.2.2.1⟩
          obtain ⟨w2, m2, v2, q2, _⟩ := (hT (p - 1) (L + i)).1 (dl _ hp1 hmi.2.1 hmi.2.2.2)
          dsimp! only [dGetD, ep]
          refine ⟨by decide, a, ka, k3 p b (L + i), _, rfl, rfl, ka2, v1, ?_⟩
          dsimp! only [dGetD, vD, ep]
          refine ⟨by decide, t, kt, L3.k2 (p - 1) (L + i), _, rfl, rfl, kt2, v2, ?_⟩
          dsimp! only [vD, gup_same, gup_gup]
          refine ⟨by decide, by rw [List.length_map]; exact Nat.lt_of_le_of_lt (m := 1000000) (by omega) (by decide), ih _ _ ⟨i + 1, n, ts ++ [[w1 + w2, ((L + i : Nat) : Int)]], _, by omega, ?_, ?_, by simp [hl2], ?_, ?_, rfl⟩⟩
          · congr 1
          · rw [List.map_append]; rfl
          · intro t ht
            rcases List.mem_append.mp ht with h | h
            · exact hts t h
            · cases List.mem_singleton.mp h
              exact ⟨_, L + i, rfl, w1, w2, q1, q2, rfl⟩
          · intro j x y
            rcases Nat.lt_or_ge j (L + i) with h | h
            · obtain ⟨W, hW⟩ := hall j x h
              exact ⟨W, List.mem_append_left _ hW⟩
            · have : j = L + i := by omega
              subst this
              exact ⟨_, List.mem_append_right _ (List.mem_singleton.mpr rfl)⟩
theorem ok_reached_table {n : Nat} (G_reach : Ok P w mg base n T.f_reach (S_reach T)) (G_least_reached : Ok P w mg base n T.f_least_reached (S_least_reached T)) : Ok P w mg base (n + 1) T.f_reached_table (S_reached_table T) := by
  refine def_ok T.f_reached_table sc_reached_table (fun ds G R h => ?_) (fun cdv A outer s H E hr =>
      (ss_cons (s_set 3 sc_reached_table.nd e_dnewT)
      (ss_cons (s_for (i_rng2 rfl T.b_range (a_cons e_int (a_cons (e_bin x_add (ev 1) e_int) a_nil))) (j_name 4 sc_reached_table.nd) (ss_one (s_for (i_rng2 rfl T.b_range (a_cons e_int (a_cons (e_bin x_add (e_callB x_min2 rfl T.b_min (by decide +kernel) (a_cons (e_callB x_len rfl T.b_len (by decide +kernel) (a_cons (ev 0) a_nil)) (a_cons (ec T.f_reach T.g_reach G_reach hr (a_cons (ev 4) a_nil)) a_nil))) e_int) a_nil))) (j_name 5 sc_reached_table.nd) (ss_cons (s_set 6 sc_reached_table.nd (e_bin x_sub (e_callB x_len rfl T.b_len (by decide +kernel) (a_cons (ev 0) a_nil)) (ev 5)))
      (ss_one (s_dputD hr (ev 3) (a_cons (ev 4) (a_cons (ev 6) a_nil)) (ec T.f_least_reached T.g_least_reached G_least_reached hr (a_cons (ev 0) (a_cons (ev 4) (a_cons (ev 6) (a_cons (ev 2) (a_cons (ev 3) a_nil))))))))))))
      (ss_one (s_ret (ev 3)))))) (fun ds G R h => ?_)
  · obtain ⟨c, a, s, pl, ka, rfl, _⟩ := h; rfl
  · obtain ⟨c, a, s, pl, ka, rfl, hc, ha, hA, hl1, hl, hs, post⟩ := h
    dsimp! only [dNewD]
    intro q hq
    (simp only [Go]; dsimp! only [id])
    rw [show ((s : Int) + 1 - 1).toNat = s by omega]
    refine ⟨⟨by decide, by decide, by omega, by omega⟩, ?_⟩
    refine forL_ind (fun r σ G' => ∃ (P k : Nat) (kvs : List (List Key × D)) (v3 v4 v5 : Option D), 1 ≤ P ∧ P + k = s + 1 ∧ r = rngD (P : Int) k ∧ Grow G G' ∧ G' q = some (.dit kvs) ∧ TRw (cf pl) pl.length (upR pl.length P 1) kvs ∧ kvs.length ≤ P * 32 + 1 ∧ σ = [some (.ref c), some (.int (s : Int)), some (.ref a), some (.ref q), v3, v4, v5]) ⟨1, s, [], none, none, none, by omega, by omega, rfl, Grow.refl.new hq, gup_same, ?_, by simp, rfl⟩ ?_ ?_
    · intro p b
      refine ⟨fun h => ?_, fun _ => rfl⟩
      obtain ⟨⟨x1, x2, x3, _⟩, x4⟩ := h
      omega
    · rintro σ G1 ⟨P, k, kvs, v3, v4, v5, hP, hk, e2, g1, k1, hT, hlen, rfl⟩
      have hk0 : k = 0 := by
        cases k with
        | zero => rfl
        | succ n => rw [rngD_succ] at e2; cases e2
      refine ⟨trivial, ?_⟩
      (simp only [Go]; dsimp! only [id])
      refine post q kvs G1 hq k1 (hT.congr fun p b => ?_) g1
      have : P = s + 1 := by omega
      subst this
      unfold upR inR
      constructor
      · rintro ⟨⟨x1, x2, x3, x4⟩, x6⟩
        exact ⟨x1, by omega, x3, x4⟩
      · rintro ⟨x1, x2, x3, x4⟩
        exact ⟨⟨x1, by omega, x3, x4⟩, by omega⟩
    · rintro z r σ G1 ⟨P, k, kvs, v3, v4, v5, hP, hk, e2, g1, k1, hT, hlen, rfl⟩ ih
      cases k with
      | zero => cases e2
      | succ k =>
        rw [rngD_succ] at e2
        cases e2
        refine ⟨trivial, ?_⟩
        dsimp! only [g1.kp _ _ hc, seqOf, List.length_map]
        refine c_reach T (by omega) ?_
        dsimp! only [id]
        obtain ⟨K, hK, hK1, hK2, hK3⟩ : ∃ K : Nat, (if ((cap P false : Nat) : Int) < (pl.length : Int) then ((cap P false : Nat) : Int) else (pl.length : Int)) = (K : Int) ∧ K ≤ pl.length ∧ K ≤ cap P false ∧ ∀ x, x ≤ pl.length → x ≤ cap P false → x ≤ K := by
          refine ⟨min (cap P false) pl.length, ?_, by omega, by omega, by omega⟩
          split <;> omega
        rw [hK, show ((K : Int) + 1 - 1).toNat = K by omega]
        refine ⟨⟨by decide, by decide, by omega, by omega⟩, ?_⟩
        refine forL_ind (fun r σ G' => ∃ (M k : Nat) (kvs : List (List Key × D)) (v4 v5 : Option D), 1 ≤ M ∧ M + k = K + 1 ∧ r = rngD (M : Int) k ∧ Grow G G' ∧ G' q = some (.dit kvs) ∧ TRw (cf pl) pl.length (upR pl.length P M) kvs ∧ kvs.length ≤ P * 32 + M ∧ σ = [some (.ref c), some (.int (s : Int)), some (.ref a), some (.ref q), some (.int (P : Int)), v4, v5]) ⟨1, K, kvs, v4, v5, by omega, by omega, rfl, g1, k1, hT, by omega, rfl⟩ ?_ ?_
        · rintro σ G2 ⟨M, k2, kv2, v4, v5, hM, hk2, e2, g2, k2', hT2, hlen2, rfl⟩
          have hk0 : k2 = 0 := by
            cases k2 with
            | zero => rfl
            | succ n => rw [rngD_succ] at e2; cases e2
          refine ⟨trivial, ih _ _ ⟨P + 1, k, kv2, _, _, _, by omega, by omega, by congr 1, g2, k2', hT2.congr fun p b => ?_, by omega, rfl⟩⟩
          unfold upR inR
          constructor
          · rintro ⟨⟨x1, x2, x3, x4⟩, x6⟩
            exact ⟨⟨x1, by omega, x3, x4⟩, by omega⟩
          · rintro ⟨⟨x1, x2, x3, x4⟩, x6⟩
            have hp : p ≤ P := by omega
            refine ⟨⟨x1, hp, x3, x4⟩, ?_⟩
            rcases Nat.lt_or_ge p P with h | h
            · exact .inl h
            · have : p = P := by omega
              subst this
              have := hK3 (pl.length - b) (by omega) x4
              exact .inr (by omega)
        · rintro z r σ G2 ⟨M, k2, kv2, v4, v5, hM, hk2, e2, g2, k2', hT2, hlen2, rfl⟩ ih2
          cases k2 with
          | zero => cases e2
          | succ k2 =>
            rw [rngD_succ] at e2
            cases e2
            refine ⟨trivial, ?_⟩
            obtain ⟨B, hB⟩ : ∃ B : Nat, pl.length = M + B := ⟨pl.length - M, by omega⟩
            have eB : (pl.length : Int) - (M : Int) = (B : Int) := by omega
            dsimp! only [g2.kp _ _ hc, seqOf, List.length_map, eB]
            (simp only [Go]; dsimp! only [dPutD])
            refine call_nd (post := fun d G' => ∃ (W : Int) (m : Nat), d = vD W m ∧ Grow G2 G' ∧ VR (cf pl) pl.length P B W m) (fun R h => ⟨c, a, q, P, B, s, pl, ka, kv2, _, rfl, g2.kp _ _ hc, g2.kp _ _ ha, k2', hA, hT2, hP, by omega, hs, by omega, hl, by omega, ?_, fun W m G' x1 x2 => h _ _ ⟨W, m, rfl, x1, x2⟩⟩) ?_
            · intro m x1 x2 x3
              exact ⟨⟨by omega, by omega, x2, x3⟩, .inl (by omega)⟩
            rintro d G4 ⟨W, m, rfl, g4, hm⟩
            dsimp! only [id]
            have hnot : ¬ upR pl.length P M P B := by
              rintro ⟨_, x⟩
              omega
            refine ⟨q, kv2, L3.k2 P B, rfl, rfl, by decide, g4.kp _ _ k2', Nat.lt_of_le_of_lt (m := 1000000) (by omega) (by decide), ih2 _ _ ⟨M + 1, k2, _, _, _, by omega, by omega, by congr 1, (g2.trans g4).own hq, gup_same, (hT2.put hnot hm).congr fun p b => ?_, ?_, rfl⟩⟩
            · unfold upR inR
              constructor
              · rintro (⟨⟨x1, x2, x3, x4⟩, x6⟩ | ⟨rfl, rfl⟩)
                · exact ⟨⟨x1, x2, x3, x4⟩, by omega⟩
                · exact ⟨⟨by omega, by omega, by omega, by omega⟩, by omega⟩
              · rintro ⟨⟨x1, x2, x3, x4⟩, x6⟩
                by_cases hh : p < P ∨ pl.length - b < M
                · exact .inl ⟨⟨x1, x2, x3, x4⟩, hh⟩
                · exact .inr ⟨by omega, by omega⟩
            · rw [len_put ((hT2 P B).2 hnot)]
              omega
theorem ok_turned_move {n : Nat} : Ok P w mg base (n + 1) T.f_turned_move (S_turned_move T) := by
  refine def_ok T.f_turned_move sc_turned_move (fun ds G R h => ?_) (fun cdv A outer s H E hr =>
      (ss_cons (s_if (t_cmp (x_eq hr) (e_ix x_ix (ev 0) e_int) e_str (nomark _)) (ss_one (s_ret (e_tup (a_cons e_str (a_cons (e_ix x_ix (ev 0) e_int) a_nil))))) ss_nil)
      (ss_cons (s_if (t_cmp (x_eq hr) (e_ix x_ix (ev 0) e_int) e_str (nomark _)) (ss_one (s_ret (e_tup (a_cons e_str (a_cons (e_ix x_ix (ev 0) e_int) a_nil))))) ss_nil)
      (ss_one (s_ret (ev 0)))))) (fun ds G R h => ?_)
  · obtain ⟨p, rfl, _⟩ := h; rfl
  · obtain ⟨p, rfl, post⟩ := h
    cases p with
    | none =>
      have l1 : (("show" : Str) = "lay") = False := eq_false (by decide)
      have l2 : (("show" : Str) = "clear") = False := eq_false (by decide)
      (dsimp! only [pmD, l1, l2]; repeat (simp only [Go]; dsimp! only [pmD, l1, l2]))
      exact post
    | some p =>
      obtain ⟨b, k⟩ := p
      have l1 : (("clear" : Str) = "lay") = False := eq_false (by decide)
      cases b with
      | true =>
        (dsimp! only [pmD, mD, pD, mP]; repeat (simp only [Go]; dsimp! only [pmD, mD, pD, mP]))
        exact ⟨by decide, post⟩
      | false =>
        (dsimp! only [pmD, mD, pD, mP, l1]; repeat (simp only [Go]; dsimp! only [pmD, mD, pD, mP, l1]))
        exact ⟨by decide, post⟩
theorem ok_turned_plan {n : Nat} (G_turned_move : Ok P w mg base n T.f_turned_move (S_turned_move T)) : Ok P w mg base (n + 1) T.f_turned_plan (S_turned_plan T) := by
  refine def_ok T.f_turned_plan sc_turned_plan (fun ds G R h => ?_) (fun cdv A outer s H E hr =>
      (ss_one (s_ret (e_comp (N' := ["move"]) (ix := [none]) (blk (osc := defScope s_turned_plan) (N := ["plan"]) rfl rfl (by decide +kernel)) (i_reversed rfl T.b_reversed (a_cons (ev 0) a_nil)) (fun _ _ _ _ => (j_name 0 (show (["move"] : List Str).Nodup by decide +kernel))) (fun _ _ _ _ => ifs_nil) (fun _ _ _ _ => (ec T.f_turned_move T.g_turned_move G_turned_move hr (a_cons (ev 0) a_nil))))))) (fun ds G R h => ?_)
  · obtain ⟨a, w, rfl, _⟩ := h; rfl
  · obtain ⟨a, w, rfl, ha, hl, post⟩ := h
    dsimp! only [wRev, ha]
    intro p hp
    have ha1 : ∀ {o : DO}, gup G p o a = some (.lst (w.map pmD)) := fun {o} => by rw [gup_ne (gne ha hp)]; exact ha
    refine compL_ind (fun r σ G' => ∃ (l t : List Pm) (v : Option D), t ++ l = w ∧ r = (t.map pmD).reverse ∧ G' = gup G p (.lst ((bkp l).map pmD)) ∧ σ = [v]) ⟨[], w, none, by simp, rfl, rfl, rfl⟩ ?_ ?_
    · rintro σ G' ⟨l, t, v, e, e2, rfl, rfl⟩
      have ht : t = [] := by simpa using e2.symm
      subst ht
      rw [List.nil_append] at e
      subst e
      refine ⟨by rw [ha1]; rfl, ?_⟩
      exact post p _ hp gup_same (Grow.refl.new hp)
    · rintro z r σ G' ⟨l, t, v, e, e2, rfl, rfl⟩ ih
      rcases List.eq_nil_or_concat t with ht | ⟨t, p0, ht⟩
      · subst ht; cases e2
      · rw [List.concat_eq_append] at ht
        subst ht
        rw [List.map_append, List.reverse_append] at e2
        cases e2
        refine ⟨by rw [ha1]; rfl, ?_⟩
        have hlen := congrArg List.length e
        rw [List.length_append, List.length_append] at hlen
        have hbl := bkp_len (w := l)
        dsimp! only [id]
        refine call_det (v := pmD (flp p0)) (G1 := gup G p (.lst ((bkp l).map pmD))) (fun R h => ⟨p0, rfl, h⟩) ?_
        dsimp! only [id]
        refine ⟨by rw [List.length_map, hbl]; exact Nat.lt_of_le_of_lt (m := 4000000) (by omega) (by decide), ih _ _ ⟨p0 :: l, t, _, by rw [← e, List.append_assoc]; rfl, rfl, ?_, rfl⟩⟩
        rw [gup_gup, bkp_cons, List.map_append]; rfl
theorem ok_left_way {n dp : Nat} (G_turned_plan : Ok P w mg base n T.f_turned_plan (S_turned_plan T)) (G_left_way : Ok P w mg base n T.f_left_way (S_left_way_r T dp)) : Ok P w mg base (n + 1) T.f_left_way (S_left_way_r T (dp + 1)) := by
  refine def_ok T.f_left_way sc_left_way (fun ds G R h => ?_) (fun cdv A outer s H E hr =>
      (ss_cons (s_if (t_cmp (x_eq hr) (e_bin x_sub (ev 2) (ev 1)) e_int (nomark _)) (ss_one (s_ret (e_lst (a_cons (e_tup (a_cons e_str (a_cons (ev 2) a_nil))) a_nil)))) ss_nil)
      (ss_cons (s_set 4 sc_left_way.nd (e_ix x_ix (e_dgetD hr (ev 3) (e_tup (a_cons (ev 0) (a_cons (ev 1) (a_cons (ev 2) a_nil))))) e_int))
      (ss_one (s_ret (e_bin x_add (e_bin x_add (ec T.f_left_way T.g_left_way G_left_way hr (a_cons (ev 0) (a_cons (ev 1) (a_cons (ev 4) (a_cons (ev 3) a_nil))))) (ec T.f_left_way T.g_left_way G_left_way hr (a_cons (e_bin x_sub (ev 0) e_int) (a_cons (ev 4) (a_cons (ev 2) (a_cons (ev 3) a_nil)))))) (ec T.f_turned_plan T.g_turned_plan G_turned_plan hr (a_cons (ec T.f_left_way T.g_left_way G_left_way hr (a_cons (e_bin x_sub (ev 0) e_int) (a_cons (ev 1) (a_cons (ev 4) (a_cons (ev 3) a_nil))))) a_nil)))))))) (fun ds G R h => ?_)
  · obtain ⟨a, n, s, p, b, e, c, kvs, rfl, _⟩ := h; rfl
  · obtain ⟨a, nn, s, p, b, e, c, kvs, rfl, ha, hT, hi, hd, hn, post⟩ := h
    have hbe := hi.2.2.1
    have hen := hi.2.2.2.1
    by_cases h1 : e - b = 1
    · have e1 : (e : Int) - (b : Int) = 1 := by omega
      dsimp! only [e1]
      refine ⟨by decide, by decide, fun q hq => ?_⟩
      have eb : e = b + 1 := by omega
      subst eb
      have hp1 := hi.1
      have one : ∀ r, p = r + 1 → LeastA c p b (b + 1) (wk c [(true, b + 1)]) := fun r hr => by
        subst hr
        show LeastA c (r + 1) b (b + 1) (c b + 0)
        rw [Int.add_zero]
        exact LeastA.one
      exact post q [(true, b + 1)] _ hq gup_same (by rw [h1]; exact Nat.lt_succ_self 1) (wok_one hi.1) (one (p - 1) (by omega)) (Grow.refl.new hq)
    · have e1 : ¬ ((e : Int) - (b : Int) = 1) := by omega
      obtain ⟨w0, m, e0, hW, hm, hs3⟩ := (hT p b e).1 hi
      obtain ⟨u1, u2, u3, y1, y2, y3, ew⟩ := hs3 h1
      clear hs3
      unfold mA at hm
      rw [if_neg h1] at hm
      obtain ⟨hp2, hbm, hme, hc1, hc2⟩ := hm
      have hcp := (cap_two hp2).1
      have i1 : inA nn s p b m := ⟨hi.1, hi.2.1, hbm, by omega, by omega⟩
      have i2 : inA nn s (p - 1) m e := ⟨by omega, by have := hi.2.1; omega, hme, by omega, by omega⟩
      have i3 : inA nn s (p - 1) b m := ⟨by omega, by have := hi.2.1; omega, hbm, by omega, by omega⟩
      have ep : (p : Int) - 1 = ((p - 1 : Nat) : Int) := by omega
      dsimp! only [id]
      rw [if_neg (by simpa using e1)]
      (simp only [Go]; dsimp! only [dGetD])
      refine ⟨by decide, a, kvs, k3 p b e, _, rfl, rfl, ha, e0, ?_⟩
      dsimp! only [vD]
      (simp only [Go]; dsimp! only [ep])
      refine c_lway T ha hT i1 (by omega) hn fun q1 w1 G1 f1 k1 l1 o1 a1 g1 => ?_
      dsimp! only [ep]
      refine c_lway T (g1.kp _ _ ha) hT i2 (by omega) hn fun q2 w2 G2 f2 k2 l2 o2 a2 g2 => ?_
      have z1 : 2 ^ (m - b) ≤ 2 ^ 20 := Nat.pow_le_pow_right (by decide) (by omega)
      have z2 : 2 ^ (e - m) ≤ 2 ^ 20 := Nat.pow_le_pow_right (by decide) (by omega)
      have z3 : 2 * 2 ^ (m - b) + 2 ^ (e - m) ≤ 2 ^ (e - b) + 2 := by
        have := pow_lem (a := m - b) (c := e - m) (by omega) (by omega)
        rw [show m - b + (e - m) = e - b by omega] at this
        exact this
      have k1' := g2.kp _ _ k1
      dsimp! only [ep]
      refine add_lst7 k1' k2 (by rw [List.length_map, List.length_map]; exact Nat.le_trans (m := 4000000) (by omega) (by decide)) fun q3 h3 => ?_
      obtain ⟨G3, hG3⟩ : ∃ G3, G3 = gup G2 q3 (.lst (w1.map mD ++ w2.map mD)) := ⟨_, rfl⟩
      have g3 : Grow G2 G3 := by rw [hG3]; exact Grow.refl.new h3
      have k3' : G3 q3 = some (.lst (w1.map mD ++ w2.map mD)) := by rw [hG3]; exact gup_same
      rw [← hG3]
      have g03 := (g1.trans g2).trans g3
      refine c_lway T (g03.kp _ _ ha) hT i3 (by omega) hn fun q4 w4 G4 f4 k4 l4 o4 a4 g4 => ?_
      dsimp! only [id]
      refine c_tplan T (w := w4.map some) (by rw [pmD_some]; exact k4) (by rw [List.length_map]; omega) fun q5 G5 f5 k5 g5 => ?_
      rw [bkp_some, pmD_some] at k5
      have k35 := g5.kp _ _ (g4.kp _ _ k3')
      dsimp! only [id]
      have hb4 := bkw_len (w := w4)
      refine add_lst7 k35 k5 (by rw [List.length_append, List.length_map, List.length_map, List.length_map]; exact Nat.le_trans (m := 4000000) (by omega) (by decide)) fun q6 h6 => ?_
      have g05 := g03.trans (g4.trans g5)
      have fin : ∀ r, p = r + 1 → WOK b e p true (w1 ++ w2 ++ bkw w4) := by
        intro r hr
        subst hr
        exact wok_alone hbm hme o1 o2 o4
      have ewk : wk c (w1 ++ w2 ++ bkw w4) = w0 := by
        rw [wk_app, wk_app, wk_bkw, ew, y1.eq a1, y2.eq a2, y3.eq a4]
      refine post q6 (w1 ++ w2 ++ bkw w4) _ (g05.none h6) (by rw [gup_same, List.map_append, List.map_append]) ?_ (fin (p - 1) (by omega)) (by rw [ewk]; exact hW) (g05.new h6)
      rw [List.length_append, List.length_append]
      omega
theorem ok_reached_way {n dp : Nat} (G_left_way : Ok P w mg base n T.f_left_way (S_left_way T)) (G_reached_way : Ok P w mg base n T.f_reached_way (S_reached_way_r T dp)) : Ok P w mg base (n + 1) T.f_reached_way (S_reached_way_r T (dp + 1)) := by
  refine def_ok T.f_reached_way sc_reached_way (fun ds G R h => ?_) (fun cdv A outer s H E hr =>
      (ss_cons (s_if (t_cmp (x_eq hr) (e_bin x_sub (ev 2) (ev 1)) e_int (nomark _)) (ss_one (s_ret (e_lst (a_cons (e_tup (a_cons e_str (a_cons (ev 2) a_nil))) a_nil)))) ss_nil)
      (ss_cons (s_set 5 sc_reached_way.nd (e_ix x_ix (e_dgetD hr (ev 4) (e_tup (a_cons (ev 0) (a_cons (ev 1) a_nil)))) e_int))
      (ss_one (s_ret (e_bin x_add (ec T.f_left_way T.g_left_way G_left_way hr (a_cons (ev 0) (a_cons (ev 1) (a_cons (ev 5) (a_cons (ev 3) a_nil))))) (ec T.f_reached_way T.g_reached_way G_reached_way hr (a_cons (e_bin x_sub (ev 0) e_int) (a_cons (ev 5) (a_cons (ev 2) (a_cons (ev 3) (a_cons (ev 4) a_nil)))))))))))) (fun ds G R h => ?_)
  · obtain ⟨a, t, n, s, p, b, c, ka, kt, rfl, _⟩ := h; rfl
  · obtain ⟨a, t, nn, s, p, b, c, ka, kt, rfl, ha, ht, hA, hT, hi, hd, hn, post⟩ := h
    have hbe := hi.2.2.1
    by_cases h1 : nn - b = 1
    · have e1 : (nn : Int) - (b : Int) = 1 := by omega
      dsimp! only [e1]
      refine ⟨by decide, by decide, fun q hq => ?_⟩
      have eb : nn = b + 1 := by omega
      subst eb
      have hp1 := hi.1
      have one : ∀ r, p = r + 1 → LeastR c (b + 1) p b (wk c [(true, b + 1)]) := fun r hr => by
        subst hr
        show LeastR c (b + 1) (r + 1) b (c b + 0)
        rw [Int.add_zero]
        exact LeastR.one
      exact post q [(true, b + 1)] _ hq gup_same (by rw [h1]; exact Nat.lt_succ_self 1) (wok_one hi.1) (one (p - 1) (by omega)) (Grow.refl.new hq)
    · have e1 : ¬ ((nn : Int) - (b : Int) = 1) := by omega
      obtain ⟨w0, m, e0, hW, hm, hs3⟩ := (hT p b).1 hi
      obtain ⟨u1, u2, y1, y2, ew⟩ := hs3 h1
      clear hs3
      unfold mR at hm
      rw [if_neg h1] at hm
      obtain ⟨hp2, hbm, hme, hc1, hc2⟩ := hm
      have i1 : inA nn s p b m := ⟨hi.1, hi.2.1, hbm, by omega, hc1⟩
      have i2 : inR nn s (p - 1) m := ⟨by omega, by have := hi.2.1; omega, hme, hc2⟩
      have ep : (p : Int) - 1 = ((p - 1 : Nat) : Int) := by omega
      dsimp! only [id]
      rw [if_neg (by simpa using e1)]
      (simp only [Go]; dsimp! only [dGetD])
      refine ⟨by decide, t, kt, L3.k2 p b, _, rfl, rfl, ht, e0, ?_⟩
      dsimp! only [vD]
      (simp only [Go]; dsimp! only [ep])
      refine c_lway T ha hA i1 (by omega) hn fun q1 w1 G1 f1 k1 l1 o1 a1 g1 => ?_
      dsimp! only [ep]
      refine c_rway T (g1.kp _ _ ha) (g1.kp _ _ ht) hA hT i2 (by omega) hn fun q2 w2 G2 f2 k2 l2 o2 a2 g2 => ?_
      have z1 : 2 ^ (m - b) ≤ 2 ^ 20 := Nat.pow_le_pow_right (by decide) (by omega)
      have z2 : 2 ^ (nn - m) ≤ 2 ^ 20 := Nat.pow_le_pow_right (by decide) (by omega)
      have z3 : 2 * 2 ^ (m - b) + 2 ^ (nn - m) ≤ 2 ^ (nn - b) + 2 := by
        have := pow_lem (a := m - b) (c := nn - m) (by omega) (by omega)
        rw [show m - b + (nn - m) = nn - b by omega] at this
        exact this
      have k1' := g2.kp _ _ k1
      dsimp! only [ep]
      refine add_lst7 k1' k2 (by rw [List.length_map, List.length_map]; exact Nat.le_trans (m := 4000000) (by omega) (by decide)) fun q6 h6 => ?_
      have g05 := g1.trans g2
      have fin : ∀ r, p = r + 1 → WOK b nn p false (w1 ++ w2) := by
        intro r hr
        subst hr
        exact wok_some hbm hme o1 o2
      have ewk : wk c (w1 ++ w2) = w0 := by
        rw [wk_app, ew, y1.eq a1, y2.eq a2]
      refine post q6 (w1 ++ w2) _ (g05.none h6) (by rw [gup_same, List.map_append]) ?_ (fin (p - 1) (by omega)) (by rw [ewk]; exact hW) (g05.new h6)
      rw [List.length_append]
      omega
theorem ok_left_plan {n : Nat} (G_alone_table : Ok P w mg base n T.f_alone_table (S_alone_table T)) (G_left_way : Ok P w mg base n T.f_left_way (S_left_way T)) : Ok P w mg base (n + 1) T.f_left_plan (S_left_plan T) := by
  refine def_ok T.f_left_plan sc_left_plan (fun ds G R h => ?_) (fun cdv A outer s H E hr =>
      (ss_cons (s_set 2 sc_left_plan.nd (ec T.f_alone_table T.g_alone_table G_alone_table hr (a_cons (ev 0) (a_cons (ev 1) a_nil))))
      (ss_cons (s_if (t_cmp (x_notInD hr) (e_tup (a_cons (ev 1) (a_cons e_int (a_cons (e_callB x_len rfl T.b_len (by decide +kernel) (a_cons (ev 0) a_nil)) a_nil)))) (ev 2) (by with_unfolding_all rfl)) (ss_one (s_ret e_non)) ss_nil)
      (ss_one (s_ret (ec T.f_left_way T.g_left_way G_left_way hr (a_cons (ev 1) (a_cons e_int (a_cons (e_callB x_len rfl T.b_len (by decide +kernel) (a_cons (ev 0) a_nil)) (a_cons (ev 2) a_nil)))))))))) (fun ds G R h => ?_)
  · obtain ⟨c, s, pl, rfl, _⟩ := h; rfl
  · obtain ⟨c, s, pl, rfl, hc, h1, h2, h3, post⟩ := h
    dsimp! only [id]
    refine c_atable T hc h1 (by omega) h3 fun q kvs G1 f1 k1 hT g1 => ?_
    (simp only [Go]; dsimp! only [g1.kp _ _ hc, seqOf, List.length_map])
    refine ⟨by decide, k3 s 0 pl.length, kvs, q, rfl, rfl, k1, ?_⟩
    have hk := hT s 0 pl.length
    by_cases hi : inA pl.length s s 0 pl.length
    · obtain ⟨w, m, e, _, _⟩ := hk.1 hi
      dsimp! only [e]
      rw [if_neg (by simp)]
      (simp only [Go]; dsimp! only [g1.kp _ _ hc, seqOf, List.length_map])
      refine c_lway T (b := 0) (n := pl.length) (s := s) k1 hT hi (by omega) h2 fun q2 w2 G2 f2 k2 l2 o2 a2 g2 => ?_
      have z1 : 2 ^ (pl.length - 0) ≤ 2 ^ 20 := Nat.pow_le_pow_right (by decide) (by omega)
      exact (post G2 (g1.trans g2)).1 q2 (w2.map some) (g1.none f2) (by rw [pmD_some]; exact k2) (by rw [List.length_map]; omega) (pln_left (by omega) o2) (by rw [wkp_some]; exact a2)
    · dsimp! only [hk.2 hi]
      rw [if_pos (by simp)]
      refine (post G1 g1).2 fun hle => hi ⟨?_, Nat.le_refl _, h1, Nat.le_refl _, hle⟩
      rcases Nat.eq_zero_or_pos s with e | e
      · subst e
        have : cap 0 true = 0 := rfl
        omega
      · exact e
theorem ok_shown_plan {n : Nat} (G_turned_plan : Ok P w mg base n T.f_turned_plan (S_turned_plan T)) (G_alone_table : Ok P w mg base n T.f_alone_table (S_alone_table T)) (G_reached_table : Ok P w mg base n T.f_reached_table (S_reached_table T)) (G_reached_way : Ok P w mg base n T.f_reached_way (S_reached_way T)) : Ok P w mg base (n + 1) T.f_shown_plan (S_shown_plan T) := by
  refine def_ok T.f_shown_plan sc_shown_plan (fun ds G R h => ?_) (fun cdv A outer s H E hr =>
      (ss_cons (s_set 2 sc_shown_plan.nd (ec T.f_alone_table T.g_alone_table G_alone_table hr (a_cons (ev 0) (a_cons (ev 1) a_nil))))
      (ss_cons (s_set 3 sc_shown_plan.nd (ec T.f_reached_table T.g_reached_table G_reached_table hr (a_cons (ev 0) (a_cons (ev 1) (a_cons (ev 2) a_nil)))))
      (ss_cons (s_if (t_cmp (x_notInD hr) (e_tup (a_cons (ev 1) (a_cons e_int a_nil))) (ev 3) (by with_unfolding_all rfl)) (ss_one (s_ret e_non)) ss_nil)
      (ss_cons (s_set 4 sc_shown_plan.nd (ec T.f_reached_way T.g_reached_way G_reached_way hr (a_cons (ev 1) (a_cons e_int (a_cons (e_callB x_len rfl T.b_len (by decide +kernel) (a_cons (ev 0) a_nil)) (a_cons (ev 2) (a_cons (ev 3) a_nil)))))))
      (ss_one (s_ret (e_bin x_add (e_bin x_add (ev 4) (e_lst (a_cons (e_tup (a_cons e_str a_nil)) a_nil))) (ec T.f_turned_plan T.g_turned_plan G_turned_plan hr (a_cons (ev 4) a_nil)))))))))) (fun ds G R h => ?_)
  · obtain ⟨c, s, pl, rfl, _⟩ := h; rfl
  · obtain ⟨c, s, pl, rfl, hc, h1, h2, h3, post⟩ := h
    dsimp! only [id]
    refine c_atable T hc h1 (by omega) h3 fun q0 kv0 G0 f0 k0 hT0 g0 => ?_
    (simp only [Go]; dsimp! only [id])
    refine c_rtable T (g0.kp _ _ hc) k0 hT0 h1 (by omega) h3 fun q kvs G1 f1 k1 hT g1 => ?_
    (simp only [Go]; dsimp! only [id])
    refine ⟨by decide, L3.k2 s 0, kvs, q, rfl, rfl, k1, ?_⟩
    have hk := hT s 0
    have g01 := g0.trans g1
    by_cases hi : inR pl.length s s 0
    · obtain ⟨w, m, e, _, _⟩ := hk.1 hi
      dsimp! only [e]
      rw [if_neg (by simp)]
      (simp only [Go]; dsimp! only [g01.kp _ _ hc, seqOf, List.length_map])
      refine c_rway T (b := 0) (n := pl.length) (s := s) (g1.kp _ _ k0) k1 hT0 hT hi (by omega) h2 fun q2 w2 G2 f2 k2 l2 o2 a2 g2 => ?_
      have z1 : 2 ^ (pl.length - 0) ≤ 2 ^ 20 := Nat.pow_le_pow_right (by decide) (by omega)
      (simp only [Go]; dsimp! only [id])
      refine ⟨by decide, by decide, fun q3 h3 => ?_⟩
      refine add_lst7 (by rw [gup_ne (gne k2 h3)]; exact k2) gup_same (by rw [List.length_map]; exact Nat.le_trans (m := 4000000) (by show w2.length + 1 ≤ 4000000; omega) (by decide)) fun q4 h4 => ?_
      obtain ⟨G4, hG4⟩ : ∃ G4, G4 = gup (gup G2 q3 (.lst [D.tup [D.str (Str.ofString "show")]])) q4 (.lst (w2.map mD ++ [D.tup [D.str (Str.ofString "show")]])) := ⟨_, rfl⟩
      have g4 : Grow G2 G4 := by rw [hG4]; exact (Grow.refl.new h3).new h4
      have k4 : G4 q4 = some (.lst (w2.map mD ++ [D.tup [D.str (Str.ofString "show")]])) := by rw [hG4]; exact gup_same
      rw [← hG4]
      refine c_tplan T (w := w2.map some) (by rw [pmD_some]; exact g4.kp _ _ k2) (by rw [List.length_map]; omega) fun q5 G5 f5 k5 g5 => ?_
      rw [bkp_some, pmD_some] at k5
      have k45 := g5.kp _ _ k4
      have hb2 := bkw_len (w := w2)
      dsimp! only [id]
      refine add_lst7 k45 k5 (by rw [List.length_append, List.length_map, List.length_map]; exact Nat.le_trans (m := 4000000) (by show w2.length + 1 + (bkw w2).length ≤ 4000000; omega) (by decide)) fun q6 h6 => ?_
      have gg := ((g01.trans g2).trans g4).trans g5
      refine (post _ (gg.new h6)).1 q6 (w2.map some ++ [none] ++ (bkw w2).map some) (wk (cf pl) w2) (gg.none h6) ?_ ?_ (pln_shown o2) a2 wkp_shown
      · rw [gup_same, List.map_append, List.map_append, pmD_some, pmD_some]; rfl
      · rw [List.length_append, List.length_append, List.length_map, List.length_map]
        show w2.length + 1 + (bkw w2).length ≤ 4000000
        omega
    · dsimp! only [hk.2 hi]
      rw [if_pos (by simp)]
      refine (post G1 g01).2 fun hle => hi ⟨?_, Nat.le_refl _, h1, hle⟩
      rcases Nat.eq_zero_or_pos s with e | e
      · subst e
        have : cap 0 false = 0 := rfl
        omega
      · exact e
theorem ok_law_draw {n : Nat} : Ok P w mg base (n + 1) T.f_law_draw (S_law_draw T) := by
  refine def_ok T.f_law_draw sc_law_draw (fun ds G R h => ?_) (fun cdv A outer s H E hr =>
      (ss_cons (s_asg (ev 0) (j_seq (n := 3) rfl (js_cons (j_name 2 sc_law_draw.nd) (js_cons (j_name 3 sc_law_draw.nd) (js_cons (j_name 4 sc_law_draw.nd) js_nil)))))
      (ss_cons (s_if (t_cmp (x_eq hr) (ev 4) e_int (nomark _)) (ss_cons (s_asg (e_bin x_add (ev 3) e_int) (j_sub (ev 0) e_int x_set))
      (ss_cons (s_set 5 sc_law_draw.nd (e_bin x_add (e_bin x_mul e_int (ev 3)) e_int))
      (ss_cons (s_if (t_cmp (x_gt) (e_callB x_len rfl T.b_len (by decide +kernel) (a_cons (ev 2) a_nil)) e_int (nomark _)) (ss_one (s_set 5 sc_law_draw.nd (e_ix x_ix (ev 2) (e_bin x_mod (ev 3) (e_callB x_len rfl T.b_len (by decide +kernel) (a_cons (ev 2) a_nil)))))) ss_nil)
      (ss_cons (s_set 4 sc_law_draw.nd (e_callB x_abs rfl T.b_abs (by decide +kernel) (a_cons (ev 5) a_nil)))
      (ss_one (s_if (t_w (w_or (t_cmp (x_ge) (ev 3) (e_callB x_len rfl T.b_len (by decide +kernel) (a_cons (ev 2) a_nil)) (nomark _)) (w_or1 (t_cmp (x_lt) (ev 4) (e_bin x_pow e_int e_int) (nomark _))))) (ss_cons (s_set 6 sc_law_draw.nd (e_bin x_mod (e_bin x_add (e_bin x_add (e_bin x_mul (e_bin x_mod (ev 5) e_int) (e_bin x_add e_int (ev 3))) (e_bin x_mul e_int (ev 3))) e_int) e_int))
      (ss_cons (s_set 6 sc_law_draw.nd (e_bin x_mod (e_bin x_mul (ev 6) (ev 6)) e_int))
      (ss_one (s_ret (e_bin x_mod (e_bin x_mod (e_bin x_mul (ev 6) (ev 6)) e_int) (ev 1)))))) ss_nil)))))) ss_nil)
      (ss_cons (s_asg (e_callB x_divmod rfl T.b_divmod (by decide +kernel) (a_cons (ev 4) (a_cons (ev 1) a_nil))) (j_seq (n := 2) rfl (js_cons (j_sub (ev 0) e_int x_set) (js_cons (j_name 7 sc_law_draw.nd) js_nil))))
      (ss_one (s_ret (ev 7))))))) (fun ds G R h => ?_)
  · obtain ⟨⟨st, m, rfl, _⟩, _⟩ := h; rfl
  · obtain ⟨⟨st, m, rfl, ⟨a, ns, k, r, hst, ha, hk, hr0, hne, hlen⟩, hm0, hm1⟩, post⟩ := h
    have fin : ∀ (v k' r' : Int), 0 ≤ v → v < m → 0 ≤ k' → 0 ≤ r' → R (.int v) (gup G st (.lst [.ref a, .int k', .int r'])) := fun v k' r' h1 h2 h3 h4 => post _ _ ⟨st, m, v, rfl,
      ⟨⟨a, ns, k', r', gup_same, by rw [gup_ne hne]; exact ha, h3, h4, hne, hlen⟩, fun b o hb e => by rw [gup_ne hb]; exact e⟩, rfl, h1, h2⟩
    have tail : ∀ (y k' r' : Int), 0 ≤ k' → 0 ≤ r' → R (.int (y % m)) (gup G st (.lst [.ref a, .int k', .int r'])) := fun y k' r' h1 h2 => fin _ _ _ (Int.emod_nonneg _ (by omega)) (Int.emod_lt_of_pos _ hm0) h1 h2
    have cd : ∀ c : Int, CDiv c m := fun c => ⟨hm0, hm1⟩
    have cm : ∀ c y : Int, CMul (c % 2147483629) y := fun c y => cmul_l (by omega) (by omega)
    have cm2 : ∀ c y : Int, CMul (c % 2147483587) y := fun c y => cmul_l (by omega) (by omega)
    have c7 : ∀ y : Int, CMul 7 y := fun y => cmul_l (by decide) (by decide)
    have c79 : ∀ y : Int, CMul 7919 y := fun y => cmul_l (by decide) (by decide)
    have cp : CPow 10 18 := ⟨by decide, by decide, by decide⟩
    have p1 : ((0 : Int) < 2147483629) = True := by decide
    have p2 : ((0 : Int) < 2147483587) = True := by decide
    have p3 : ((0 : Int) < 1999999973) = True := by decide
    have p4 : ((0 : Int) < m) = True := eq_true hm0
    by_cases hn : ns = []
    · subst hn
      (dsimp! only [hst, ha, gup_ne hne, gup_gup, cd, cm, cm2, c7, c79, cp, p1, p2, p3, p4]; repeat (simp only [Go]; dsimp! only [hst, ha, gup_ne hne, gup_gup, cd, cm, cm2, c7, c79, cp, p1, p2, p3, p4]))
      refine ite_d (fun h0 => ?_) (fun h0 => ?_)
      · simp only [Int.lt_irrefl, Int.natCast_zero, decide_false, Bool.false_eq_true, if_false]
        refine ite_d (fun h1 => ?_) (fun h1 => ?_)
        · exact tail _ _ _ (by omega) hr0
        · exact absurd hk h1
      · exact tail _ _ _ hk (Int.ediv_nonneg hr0 (by omega))
    · have hpos : 0 < ns.length := List.length_pos_iff.mpr hn
      have hl : ((ns.map D.int).length : Int) = (ns.length : Int) := by simp
      obtain ⟨c, hc⟩ : ∃ c, atI (ns.map D.int) (k % (ns.length : Int)) = some (.int c) := ⟨_, atI_map (Int.emod_nonneg _ (by omega)) (Int.emod_lt_of_pos _ (by omega))⟩
      have p5 : ((0 : Int) < (ns.length : Int)) = True := eq_true (by omega)
      (dsimp! only [hst, ha, gup_ne hne, gup_gup, cd, cm, cm2, c7, c79, cp, p1, p2, p3, p4, hl, hc, p5]; repeat (simp only [Go]; dsimp! only [hst, ha, gup_ne hne, gup_gup, cd, cm, cm2, c7, c79, cp, p1, p2, p3, p4, hl, hc, p5]))
      refine ite_d (fun h0 => ?_) (fun h0 => ?_)
      · refine ite_d (fun h1 => ?_) (fun h1 => ?_)
        · exact tail _ _ _ (by omega) hr0
        · refine ite_d (fun h2 => ?_) (fun h2 => ?_)
          · exact tail _ _ _ (by omega) hr0
          · refine tail _ _ _ (by omega) (Int.ediv_nonneg ?_ (by omega))
            split <;> omega
      · exact tail _ _ _ hk (Int.ediv_nonneg hr0 (by omega))
theorem ok_law_behind {n : Nat} : Ok P w mg base (n + 1) T.f_law_behind (S_law_behind T) := by
  refine def_ok T.f_law_behind sc_law_behind (fun ds G R h => ?_) (fun cdv A outer s H E hr =>
      (ss_cons (s_if (t_cmp (x_eq hr) (e_ix x_ix (ev 1) e_int) e_str (nomark _)) (ss_one (s_ret (e_callB x_sorted rfl T.b_sorted (by decide +kernel) (a_cons (e_bin x_add (ev 0) (e_lst (a_cons (e_ix x_ix (ev 1) e_int) a_nil))) a_nil)))) ss_nil)
      (ss_one (s_ret (e_comp (N' := ["_law_k", "_law_move"]) (ix := [none, some 1]) (blk (osc := defScope s_law_behind) (N := ["_law_there", "_law_move"]) rfl rfl (by decide +kernel)) (i_any (ev 0)) (fun _ _ _ _ => (j_name 0 (show (["_law_k", "_law_move"] : List Str).Nodup by decide +kernel))) (fun _ _ _ _ => (ifs_one (t_cmp (x_ne hr) (ev 0) (e_ix x_ix (ev 1) e_int) (nomark _)))) (fun _ _ _ _ => (ev 0))))))) (fun ds G R h => ?_)
  · obtain ⟨a, m, p, rfl, _⟩ := h; rfl
  · obtain ⟨a, m, p, rfl, ha, ⟨h1, h2⟩, post⟩ := h
    have hl : ((mks m).map D.int).length ≤ 24 := by rw [List.length_map, mks_len]; exact cnt_le
    cases hb : p.1 with
    | true =>
      rw [hb] at h2
      have hz : stb p.2 m = false := by simpa using h2.symm
      dsimp! only [mD, pD, mP, hb]
      refine ⟨by decide, fun p1 hp1 => ?_⟩
      refine xadd_ls (by rw [gup_ne (gne ha hp1)]; exact ha) gup_same (by show _ + 1 ≤ 100000; omega) fun p2 hp2 => ?_
      refine ⟨p2, mks m ++ [(p.2 : Int)], rfl, by rw [gup_same, List.map_append]; rfl, by rw [List.length_append, List.length_singleton]; rw [List.length_map] at hl; omega, fun p3 ns' hp3 hperm hpw => ?_⟩
      have e := mks_lay h1.1 h1.2 hz hperm hpw
      subst e
      exact post p3 _ ((((Grow.refl.new hp1).new hp2)).none hp3) gup_same (((Grow.refl.new hp1).new hp2).new hp3)
    | false =>
      rw [hb] at h2
      have hz : stb p.2 m = true := by simpa using h2.symm
      have l1 : (("clear" : Str) = "lay") = False := eq_false (by decide)
      dsimp! only [mD, pD, mP, hb, l1]
      (simp only [Go]; dsimp! only [ha])
      intro p1 hp1
      have ha1 : ∀ {o : DO}, gup G p1 o a = some (.lst ((mks m).map .int)) := fun {o} => by rw [gup_ne (gne ha hp1)]; exact ha
      refine compL_ind (fun r σ G' => ∃ (x1 x2 : List Int) (v : Option D), x1 ++ x2 = mks m ∧ r = x2.map .int ∧ G' = gup G p1 (.lst ((x1.filter fun x => !decide (x = (p.2 : Int))).map .int)) ∧ σ = [v, some (.tup [.str "clear", .int (p.2 : Int)])]) ⟨[], mks m, none, rfl, rfl, rfl, rfl⟩ ?_ ?_
      · rintro σ G' ⟨x1, x2, v, e, e2, rfl, rfl⟩
        have ht : x2 = [] := by simpa using e2.symm
        subst ht
        rw [List.append_nil] at e
        subst e
        refine ⟨by rw [ha1]; rfl, ?_⟩
        rw [mks_clear h1.1 hz]
        exact post p1 _ hp1 gup_same (Grow.refl.new hp1)
      · rintro z r σ G' ⟨x1, x2, v, e, e2, rfl, rfl⟩ ih
        cases x2 with
        | nil => cases e2
        | cons x x2 =>
          cases e2
          refine ⟨by rw [ha1]; rfl, ?_⟩
          have hlen := congrArg List.length e
          rw [List.length_append, List.length_cons] at hlen
          rw [List.length_map] at hl
          have hfl := List.length_filter_le (fun x => !decide (x = (p.2 : Int))) x1
          dsimp! only [id]
          by_cases hx : x = (p.2 : Int)
          · rw [if_neg (by rw [decide_eq_true hx]; decide)]
            refine ih _ _ ⟨x1 ++ [x], x2, _, by rw [← e, List.append_assoc]; rfl, rfl, ?_, rfl⟩
            rw [List.filter_append]; simp [hx]
          · rw [if_pos (by rw [decide_eq_false hx]; rfl)]
            dsimp! only [id]
            refine ⟨by rw [List.length_map]; exact Nat.lt_of_le_of_lt (m := 1000) (by omega) (by decide), ih _ _ ⟨x1 ++ [x], x2, _, by rw [← e, List.append_assoc]; rfl, rfl, ?_, rfl⟩⟩
            rw [gup_gup, List.filter_append]; simp [hx]
theorem ok_law_one {n : Nat} : Ok P w mg base (n + 1) T.f_law_one (S_law_one T) := by
  refine def_ok T.f_law_one sc_law_one (fun ds G R h => ?_) (fun cdv A outer s H E hr =>
      (ss_cons (s_if (t_cmp (x_eq hr) (e_ix x_ix (ev 2) e_int) e_str (nomark _)) (ss_one (s_ret (e_and (e_cmp (x_in hr) (ev 3) (ev 0) (by with_unfolding_all rfl)) (e_one (e_not (ev 1)))))) ss_nil)
      (ss_cons (s_set 5 sc_law_one.nd (e_ix x_ix (ev 2) e_int))
      (ss_cons (s_if (t_w (w_or (t_not (t_chain (x_le) (x_le) e_int (ev 5) (ev 3))) (w_or1 (t_w (w_and (t_cmp (x_gt) (ev 5) e_int (nomark _)) (w_and1 (t_cmp (x_notIn hr) (e_bin x_sub (ev 5) e_int) (ev 0) (by with_unfolding_all rfl)))))))) (ss_one (s_ret e_bl)) ss_nil)
      (ss_cons (s_if (t_cmp (x_eq hr) (e_ix x_ix (ev 2) e_int) e_str (nomark _)) (ss_one (s_ret (e_cmp (x_in hr) (ev 5) (ev 0) (by with_unfolding_all rfl)))) ss_nil)
      (ss_one (s_ret (e_and (e_cmp (x_notIn hr) (ev 5) (ev 0) (by with_unfolding_all rfl)) (e_one (e_cmp (x_lt) (e_callB x_len rfl T.b_len (by decide +kernel) (a_cons (ev 0) a_nil)) (ev 4) (nomark _))))))))))) (fun ds G R h => ?_)
  · obtain ⟨a, m, n, s, sh, p, rfl, _⟩ := h; rfl
  · obtain ⟨a, m, n', s, sh, p, rfl, ha, hn1, hn2, hm, hc, post⟩ := h
    have hin : ∀ k : Nat, 1 ≤ k → k ≤ 24 → decide ((k : Int) ∈ mks m) = stb k m := fun k h1 h2 => by
      rw [Bool.eq_iff_iff, decide_eq_true_iff]; exact mks_has h1 h2
    cases p with
    | none =>
      obtain ⟨⟨q1, q2⟩, _⟩ := hc
      have hs : stb n' m = true := q1
      subst q2
      dsimp! only [pmD]
      refine xin_ints (ns := mks m) (by rw [ha]; rfl) ?_
      rw [if_neg (by decide), hin n' hn1 hn2, hs]
      dsimp! only [id]
      exact post
    | some p =>
      obtain ⟨⟨h1, h2, h3, h4⟩, _⟩ := hc
      have hns : ((if p.1 = true then ("lay" : Str) else "clear") = "show") = False := eq_false (by cases p.1 <;> decide)
      dsimp! only [pmD, mD, pD, mP, hns]
      (simp only [Go]; dsimp! only [id])
      (simp only [Go]; dsimp! only [dChain])
      have a1 : decide ((1 : Int) ≤ (p.2 : Int)) = true := decide_eq_true (by have := h1.1; omega)
      have a2 : decide ((p.2 : Int) ≤ (n' : Int)) = true := decide_eq_true (by have := h1.2; omega)
      dsimp! only [a1, a2]
      generalize hN1 : Go (dSeq _ _ _) = N1
      have r1 : N1 [some (.ref a), some (.bl sh), some (.tup [.str (if p.1 = true then Str.ofString "lay" else Str.ofString "clear"), .int (p.2 : Int)]), some (.int (n' : Int)), some (.int (s : Int)), some (.int (p.2 : Int))] G := by
        rw [← hN1]
        have hk := hin p.2 h1.1 (by have := h1.2; omega)
        cases hb : p.1 with
        | true =>
          rw [hb] at h3
          have hz : stb p.2 m = false := by simpa using h3.symm
          have hl : (((mks m).map D.int).length : Int) = (cnt n' m : Int) := by rw [List.length_map, mks_len, cnt_24 hm hn2]
          have h5 := h4 hb
          (simp only [Go]; dsimp! only [id])
          (simp only [Go]; dsimp! only [id])
          rw [if_neg (by decide)]
          refine xin_ints (ns := mks m) (by rw [ha]; rfl) ?_
          rw [if_pos rfl, hk, hz]
          dsimp! only [ha, seqOf]
          rw [hl]
          have : decide ((cnt n' m : Int) < (s : Int)) = true := decide_eq_true (by omega)
          rw [this]
          exact post
        | false =>
          rw [hb] at h3
          have hz : stb p.2 m = true := by simpa using h3.symm
          (simp only [Go]; dsimp! only [id])
          refine xin_ints (G := G) (a := a) (ns := mks m) (by rw [ha]; rfl) ?_
          rw [if_neg (by decide), hk, hz]
          exact post
      by_cases hp : p.2 = 1
      · have a3 : decide ((1 : Int) < (p.2 : Int)) = false := decide_eq_false (by omega)
        dsimp! only [a3]
        exact r1
      · have a3 : decide ((1 : Int) < (p.2 : Int)) = true := decide_eq_true (by have := h1.1; omega)
        have ej : (p.2 : Int) - 1 = ((p.2 - 1 : Nat) : Int) := by have := h1.1; omega
        have hk := hin (p.2 - 1) (by have := h1.1; omega) (by have := h1.2; omega)
        have hz : stb (p.2 - 1) m = true := by
          have := h2.resolve_left hp
          show m.testBit (p.2 - 1 - 1) = true
          rw [show p.2 - 1 - 1 = p.2 - 2 by omega]
          exact this
        dsimp! only [a3, ej]
        refine xin_ints (ns := mks m) (by rw [ha]; rfl) ?_
        rw [if_pos rfl, hk, hz]
        dsimp! only [id]
        exact r1
theorem ok_law_pass {n : Nat} (G_law_behind : Ok P w mg base n T.f_law_behind (S_law_behind T)) (G_law_one : Ok P w mg base n T.f_law_one (S_law_one T)) : Ok P w mg base (n + 1) T.f_law_pass (S_law_pass T) := by
  refine def_ok T.f_law_pass sc_law_pass (fun ds G R h => ?_) (fun cdv A outer s H E hr =>
      (ss_cons (s_set 3 sc_law_pass.nd (e_lst a_nil))
      (ss_cons (s_set 4 sc_law_pass.nd e_bl)
      (ss_cons (s_for (i_enumerate rfl T.b_enumerate (a_cons (ev 0) a_nil)) (j_seq (n := 2) rfl (js_cons (j_name 5 sc_law_pass.nd) (js_cons (j_name 6 sc_law_pass.nd) js_nil))) (ss_cons (s_if (t_not (t_val (ec T.f_law_one T.g_law_one G_law_one hr (a_cons (ev 3) (a_cons (ev 4) (a_cons (ev 6) (a_cons (ev 1) (a_cons (ev 2) a_nil)))))))) (ss_one (s_ret (ev 5))) ss_nil)
      (ss_one (s_if (t_cmp (x_eq hr) (e_ix x_ix (ev 6) e_int) e_str (nomark _)) (ss_one (s_set 4 sc_law_pass.nd e_bl)) (ss_one (s_set 3 sc_law_pass.nd (ec T.f_law_behind T.g_law_behind G_law_behind hr (a_cons (ev 3) (a_cons (ev 6) a_nil)))))))))
      (ss_cons (s_if (t_w (w_and (t_val (ev 4)) (w_and1 (t_cmp (x_eq hr) (ev 3) (e_lst a_nil) (nomark _))))) (ss_one (s_ret e_str)) ss_nil)
      (ss_cons (s_if (t_w (w_and (t_not (t_val (ev 4))) (w_and1 (t_cmp (x_eq hr) (ev 3) (e_lst (a_cons (ev 1) a_nil)) (nomark _))))) (ss_one (s_ret e_str)) ss_nil)
      (ss_one (s_ret (e_callB x_len rfl T.b_len (by decide +kernel) (a_cons (ev 0) a_nil)))))))))) (fun ds G R h => ?_)
  · obtain ⟨a, n, s, b, w, rfl, _⟩ := h; rfl
  · obtain ⟨a, n', s, b, w, rfl, ha, hP, hn1, hn2, hl, post⟩ := h
    obtain ⟨hck, hsh, hfi⟩ := hP.ckp
    dsimp! only [id]
    refine ⟨by decide, fun th hth => ?_⟩
    have ka : ∀ {G' : Gp}, Grow G G' → G' a = some (.lst (w.map pmD)) := fun g => g.kp _ _ ha
    (simp only [Go]; dsimp! only [id])
    have g0 : Grow G (gup G th (.lst [])) := Grow.refl.new hth
    (simp only [Go]; dsimp! only [wEnum, ka g0])
    refine forL_ind (fun r σ G' => ∃ (l t : List Pm) (u : Addr) (v5 v6 : Option D), l ++ t = w ∧ r = enD l.length (t.map pmD) ∧ Grow G G' ∧ G' u = some (.lst ((mks (finp 0 l)).map .int)) ∧ σ = [some (.ref a), some (.int (n' : Int)), some (.int (s : Int)), some (.ref u), some (.bl (shw false l)), v5, v6]) ⟨[], w, th, none, none, rfl, rfl, g0, by rw [gup_same]; rfl, rfl⟩ ?_ ?_
    · rintro σ G1 ⟨l, t, u, v5, v6, e, e2, g1, k1, rfl⟩
      have ht : t = [] := by
        cases t with
        | nil => rfl
        | cons x t => cases e2
      subst ht
      rw [List.append_nil] at e
      subst e
      refine ⟨by rw [ka g1]; rfl, ?_⟩
      rw [hsh]
      rw [hfi] at k1
      cases b with
      | false =>
        dsimp! only [id]
        (simp only [Go]; dsimp! only [id])
        refine ⟨by decide, fun p hp => ?_⟩
        rw [if_neg (by decide)] at k1
        refine cmp_ints (ks := []) (ms := []) (by rw [gup_ne (gne k1 hp), k1]; rfl) (by rw [gup_same]; rfl) ?_
        rw [decide_eq_true rfl, if_pos rfl]
        exact post _ (g1.new hp)
      | true =>
        dsimp! only [id]
        (simp only [Go]; dsimp! only [id])
        (simp only [Go]; dsimp! only [id])
        refine ⟨by decide, fun p hp => ?_⟩
        have ek : mks (2 ^ (n' - 1)) = [(n' : Int)] := mks_one hn1 hn2
        rw [if_pos rfl, ek] at k1
        refine cmp_ints (ks := [(n' : Int)]) (ms := [(n' : Int)]) (by rw [gup_ne (gne k1 hp), k1]; rfl) (by rw [gup_same]; rfl) ?_
        rw [decide_eq_true rfl, if_pos rfl]
        exact post _ (g1.new hp)
    · rintro z r σ G1 ⟨l, t, u, v5, v6, e, e2, g1, k1, rfl⟩ ih
      cases t with
      | nil => cases e2
      | cons p0 t =>
        cases e2
        refine ⟨by rw [ka g1]; rfl, ?_⟩
        have hck2 : ckp n' s 0 false (l ++ p0 :: t) := by rw [e]; exact hck
        obtain ⟨hcl, o1⟩ := ckp_app.mp hck2
        have hlt := ckp_lt (Nat.two_pow_pos n') hcl
        have o2 : ckp n' s (finp 0 l) (shw false l) [p0] := by
          cases p0 with
          | none => exact ⟨o1.1, trivial⟩
          | some p => exact ⟨o1.1, trivial⟩
        dsimp! only [id]
        refine call_det (v := .bl true) (G1 := G1) (fun R h => ⟨u, finp 0 l, n', s, shw false l, p0, rfl, k1, hn1, hn2, hlt, o2, h⟩) ?_
        dsimp! only [id]
        (simp only [Go]; dsimp! only [id])
        cases p0 with
        | none =>
          dsimp! only [pmD]
          exact ih _ _ ⟨l ++ [none], t, u, _, _, by rw [← e, List.append_assoc]; rfl, by rw [List.length_append]; rfl, g1, by rw [finp_app]; exact k1, by rw [shw_app]; rfl⟩
        | some p =>
          obtain ⟨o1, _⟩ := o1
          have hns : ((if p.1 = true then ("lay" : Str) else "clear") = "show") = False := eq_false (by cases p.1 <;> decide)
          dsimp! only [pmD, mD, pD, mP, hns]
          refine c_lbehind T (p := p) k1 ⟨⟨o1.1.1, by have := o1.1.2; omega⟩, o1.2.2.1⟩ fun u' G2 f2 k2 g2 => ?_
          dsimp! only [id]
          exact ih _ _ ⟨l ++ [some p], t, u', _, _, by rw [← e, List.append_assoc]; rfl, by rw [List.length_append]; rfl, g1.trans g2, by rw [finp_app]; exact k2, by rw [shw_app]; rfl⟩
theorem ok_law_costs {n : Nat} (G_law_draw : Ok P w mg base n T.f_law_draw (S_law_draw T)) : Ok P w mg base (n + 1) T.f_law_costs (S_law_costs T) := by
  refine def_ok T.f_law_costs sc_law_costs (fun ds G R h => ?_) (fun cdv A outer s H E hr =>
      (ss_cons (s_set 2 sc_law_costs.nd (ec T.f_law_draw T.g_law_draw G_law_draw hr (a_cons (ev 0) (a_cons e_int a_nil))))
      (ss_cons (s_if (t_cmp (x_eq hr) (ev 2) e_int (nomark _)) (ss_one (s_ret (e_comp (N' := ["_law_k", "_law_state"]) (ix := [none, some 0]) (blk (osc := defScope s_law_costs) (N := ["_law_state", "_law_n", "_law_sort"]) rfl rfl (by decide +kernel)) (i_rng1 rfl T.b_range (a_cons (ev 1) a_nil)) (fun _ _ _ _ => (j_name 0 (show (["_law_k", "_law_state"] : List Str).Nodup by decide +kernel))) (fun _ _ _ _ => ifs_nil) (fun _ _ _ _ => (e_bin x_add e_int (ec T.f_law_draw T.g_law_draw G_law_draw hr (a_cons (ev 1) (a_cons e_int a_nil)))))))) ss_nil)
      (ss_cons (s_if (t_cmp (x_eq hr) (ev 2) e_int (nomark _)) (ss_one (s_ret (e_bin x_mul (e_lst (a_cons (e_bin x_add e_int (ec T.f_law_draw T.g_law_draw G_law_draw hr (a_cons (ev 0) (a_cons (e_bin x_pow e_int e_int) a_nil)))) a_nil)) (ev 1)))) ss_nil)
      (ss_cons (s_if (t_cmp (x_eq hr) (ev 2) e_int (nomark _)) (ss_one (s_ret (e_comp (N' := ["_law_k", "_law_state"]) (ix := [none, some 0]) (blk (osc := defScope s_law_costs) (N := ["_law_state", "_law_n", "_law_sort"]) rfl rfl (by decide +kernel)) (i_rng1 rfl T.b_range (a_cons (ev 1) a_nil)) (fun _ _ _ _ => (j_name 0 (show (["_law_k", "_law_state"] : List Str).Nodup by decide +kernel))) (fun _ _ _ _ => ifs_nil) (fun _ _ _ _ => (e_ix x_ix (e_lst (a_cons e_int (a_cons (e_bin x_pow e_int e_int) (a_cons e_int (a_cons e_int a_nil))))) (ec T.f_law_draw T.g_law_draw G_law_draw hr (a_cons (ev 1) (a_cons e_int a_nil)))))))) ss_nil)
      (ss_one (s_ret (e_comp (N' := ["_law_k", "_law_state"]) (ix := [none, some 0]) (blk (osc := defScope s_law_costs) (N := ["_law_state", "_law_n", "_law_sort"]) rfl rfl (by decide +kernel)) (i_rng1 rfl T.b_range (a_cons (ev 1) a_nil)) (fun _ _ _ _ => (j_name 0 (show (["_law_k", "_law_state"] : List Str).Nodup by decide +kernel))) (fun _ _ _ _ => ifs_nil) (fun _ _ _ _ => (e_bin x_add e_int (ec T.f_law_draw T.g_law_draw G_law_draw hr (a_cons (ev 1) (a_cons (e_bin x_pow e_int e_int) a_nil))))))))))))) (fun ds G R h => ?_)
  · obtain ⟨st, n, rfl, _⟩ := h; rfl
  · obtain ⟨st, n', rfl, S, hn, post⟩ := h
    dsimp! only [id]
    refine draw_call S (by decide) (by decide) fun v G1 a1 p1 q1 => ?_
    dsimp! only [id]
    (simp only [Go]; dsimp! only [id])
    have loop : ∀ (mm : Int) (targ : TE3) (G1 : Gp) (k : DK) (p : Addr), (∀ σ G q, q (.int mm) G → targ σ G q) → 0 < mm → mm ≤ 1000000000 → Adv st G G1 → G1 p = none → (∀ (q : Addr) (pl : List Int) (G' : Gp), Adv st G G' → q ≠ st → G' q = some (.lst (pl.map .int)) → pl.length = n' → (∀ x ∈ pl, 1 ≤ x ∧ x ≤ 1000000000) → k (.ref q) G') → compL (fun _ => True) (jName 0) dYes (dOp xAdd (dC (.int 1)) (dCall (S_law_draw T) [] (dCons (dVar 1) (dCons targ dNil)))) p k (rngD 0 n') [none, some (.ref st)] (gup G1 p (.lst [])) := by
      intro mm targ G1 k p ht hm0 hm1 A1 hp hk
      have nps := A1.at_.ne hp
      have f1 : G p = none := A1.none hp nps
      refine compL_ind (fun r σ G' => ∃ (j c : Nat) (pl : List Int) (v : Option D), j + c = n' ∧ r = rngD (j : Int) c ∧ Adv st G G' ∧ G' p = some (.lst (pl.map .int)) ∧ pl.length = j ∧ (∀ x ∈ pl, 1 ≤ x ∧ x ≤ 1000000000) ∧ σ = [v, some (.ref st)]) ⟨0, n', [], none, by omega, rfl, A1.new hp, gup_same, rfl, by simp, rfl⟩ ?_ ?_
      · rintro σ G2 ⟨j, c, pl, v, e, e2, A2, k2, hl, hb, rfl⟩
        have ec : c = 0 := by
          cases c with
          | zero => rfl
          | succ c => rw [rngD_succ] at e2; cases e2
        subst ec
        exact ⟨trivial, hk p pl G2 A2 nps k2 (by omega) hb⟩
      · rintro z r σ G2 ⟨j, c, pl, v, e, e2, A2, k2, hl, hb, rfl⟩ ih
        cases c with
        | zero => cases e2
        | succ c =>
          rw [rngD_succ] at e2
          cases e2
          refine ⟨trivial, ?_⟩
          have ej : (j : Int) + 1 = ((j + 1 : Nat) : Int) := by omega
          dsimp! only [id]
          refine ht _ _ _ ?_
          dsimp! only [id]
          refine draw_call A2.at_ hm0 (by omega) fun x G3 a3 c1 c2 => ?_
          have k3 := a3.kp _ _ nps k2
          dsimp! only [k3]
          refine ⟨by rw [List.length_map]; exact Nat.lt_of_le_of_lt (m := 4000) (by omega) (by decide), ih _ _ ⟨j + 1, c, pl ++ [1 + x], _, by omega, by rw [ej], (A2.trans a3).own f1 k3 nps, by rw [gup_same, List.map_append]; rfl, by rw [List.length_append, hl]; rfl, ?_, rfl⟩⟩
          intro y hy
          rcases List.mem_append.mp hy with h | h
          · exact hb y h
          · rw [List.mem_singleton.mp h]; omega
    have cp9 : CPow 10 9 := ⟨by decide, by decide, by decide⟩
    have pw9 : (10 : Int) ^ Int.toNat 9 = 1000000000 := by decide
    refine ite_d (fun h0 => ?_) (fun h0 => ?_)
    · dsimp! only [id]
      refine ⟨rng_ok (by omega), fun p hp => ?_⟩
      exact loop 9 (dC (.int 9)) G1 R p (fun _ _ _ h => h) (by decide) (by decide) a1 hp post
    · (simp only [Go]; dsimp! only [id])
      refine ite_d (fun h1 => ?_) (fun h1 => ?_)
      · dsimp! only [cp9]
        refine draw_call a1.at_ (by decide) (by decide) fun x G2 a2 c1 c2 => ?_
        have A2 := a1.trans a2
        dsimp! only [id]
        refine ⟨by decide, fun p hp => ?_⟩
        have A3 := A2.new (o := .lst [.int (1 + x)]) hp
        refine ⟨⟨by omega, by omega, Nat.le_of_lt (Nat.lt_of_le_of_lt (m := 1000) (by omega) (by decide))⟩, fun p2 hp2 => ?_⟩
        have n2 := A3.at_.ne hp2
        refine post p2 (List.replicate n' (1 + x)) _ (A3.new hp2) n2 ?_ (by simp) (fun y hy => by rw [(List.mem_replicate.mp hy).2]; rw [pw9] at c2; omega)
        rw [gup_same, List.map_replicate]
        have : ∀ k, (List.replicate k [D.int (1 + x)]).flatten = List.replicate k (D.int (1 + x)) := by
          intro k
          induction k with
          | zero => rfl
          | succ k ih => rw [List.replicate_succ, List.flatten_cons, ih]; rfl
        rw [this]
      · (simp only [Go]; dsimp! only [id])
        refine ite_d (fun h2 => ?_) (fun h2 => ?_)
        · dsimp! only [id]
          refine ⟨rng_ok (by omega), fun p hp => ?_⟩
          have nps := a1.at_.ne hp
          have f1 : G p = none := a1.none hp nps
          refine compL_ind (fun r σ G' => ∃ (j c : Nat) (pl : List Int) (v : Option D), j + c = n' ∧ r = rngD (j : Int) c ∧ Adv st G G' ∧ G' p = some (.lst (pl.map .int)) ∧ pl.length = j ∧ (∀ x ∈ pl, 1 ≤ x ∧ x ≤ 1000000000) ∧ σ = [v, some (.ref st)]) ⟨0, n', [], none, by omega, rfl, a1.new hp, gup_same, rfl, by simp, rfl⟩ ?_ ?_
          · rintro σ G2 ⟨j, c, pl, v, e, e2, A2, k2, hl, hb, rfl⟩
            have ec : c = 0 := by
              cases c with
              | zero => rfl
              | succ c => rw [rngD_succ] at e2; cases e2
            exact ⟨trivial, post p pl G2 A2 nps k2 (by omega) hb⟩
          · rintro z r σ G2 ⟨j, c, pl, v, e, e2, A2, k2, hl, hb, rfl⟩ ih
            cases c with
            | zero => cases e2
            | succ c =>
              rw [rngD_succ] at e2
              cases e2
              refine ⟨trivial, ?_⟩
              have ej : (j : Int) + 1 = ((j + 1 : Nat) : Int) := by omega
              dsimp! only [cp9, pw9]
              refine ⟨by decide, fun p3 hp3 => ?_⟩
              have A3 := A2.new (o := .lst [.int 1, .int 1000000000, .int 2, .int 50]) hp3
              have n3 := A2.at_.ne hp3
              refine draw_call A3.at_ (by decide) (by decide) fun x G3 a3 c1 c2 => ?_
              have k33 := a3.kp _ _ n3 gup_same
              have k3 := a3.kp _ _ nps (by rw [gup_ne (gne k2 hp3)]; exact k2)
              obtain ⟨y, hy, hy1⟩ : ∃ y : Int, atI [D.int 1, .int 1000000000, .int 2, .int 50] x = some (.int y) ∧ 1 ≤ y ∧ y ≤ 1000000000 := by
                have : x = 0 ∨ x = 1 ∨ x = 2 ∨ x = 3 := by omega
                rcases this with e | e | e | e <;> subst e
                · exact ⟨1, rfl, by decide⟩
                · exact ⟨1000000000, rfl, by decide⟩
                · exact ⟨2, rfl, by decide⟩
                · exact ⟨50, rfl, by decide⟩
              dsimp! only [pw9, k33, hy, k3]
              refine ⟨by rw [List.length_map]; exact Nat.lt_of_le_of_lt (m := 4000) (by omega) (by decide), ih _ _ ⟨j + 1, c, pl ++ [y], _, by omega, by rw [ej], (A3.trans a3).own f1 k3 nps, by rw [gup_same, List.map_append]; rfl, by rw [List.length_append, hl]; rfl, ?_, rfl⟩⟩
              intro y' hy'
              rcases List.mem_append.mp hy' with h | h
              · exact hb y' h
              · rw [List.mem_singleton.mp h]; exact hy1
        · (simp only [Go]; dsimp! only [id])
          refine ⟨rng_ok (by omega), fun p hp => ?_⟩
          exact loop 1000000000 _ G1 R p (fun σ G q h => by dsimp! only [cp9]; exact h) (by decide) (by decide) a1 hp post
theorem ok_law_least {n : Nat} : Ok P w mg base (n + 1) T.f_law_least (S_law_least T) := by
  refine def_ok T.f_law_least sc_law_least (fun ds G R h => ?_) (fun cdv A outer s H E hr =>
      (ss_cons (s_setC 1 sc_law_least.nd (N' := ["_law_one_here"]) (ix := [none]) (blk (osc := defScope s_law_least) (N := ["_law_some", "_law_there"]) rfl rfl (by decide +kernel)) (i_any (ev 0)) (fun _ _ _ _ => (j_name 0 (show (["_law_one_here"] : List Str).Nodup by decide +kernel))) (fun _ _ _ _ => (ifs_one (t_cmp (x_isNot2) (ev 0) e_non (nomark _)))) (fun _ _ _ _ => (ev 0)))
      (ss_cons (s_if (t_cmp (x_eq hr) (ev 1) (e_lst a_nil) (nomark _)) (ss_one (s_ret e_non)) ss_nil)
      (ss_one (s_ret (e_callB x_min1 rfl T.b_min (by decide +kernel) (a_cons (ev 1) a_nil))))))) (fun ds G R h => ?_)
  · obtain ⟨a, xs, rfl, _⟩ := h; rfl
  · obtain ⟨a, xs, rfl, ha, hl, post⟩ := h
    dsimp! only [ha]
    intro p hp
    have ka : ∀ {o : DO}, gup G p o a = some (.lst (xs.map oD)) := fun {o} => by rw [gup_ne (gne ha hp)]; exact ha
    refine compL_ind (fun r σ G' => ∃ (z1 z2 : List (Option Int)) (v : Option D), z1 ++ z2 = xs ∧ r = z2.map oD ∧ G' = gup G p (.lst ((z1.filterMap id).map .int)) ∧ σ = [v]) ⟨[], xs, none, rfl, rfl, rfl, rfl⟩ ?_ ?_
    · rintro σ G' ⟨z1, z2, v, e, e2, rfl, rfl⟩
      have ht : z2 = [] := by simpa using e2.symm
      subst ht
      rw [List.append_nil] at e
      subst e
      refine ⟨by rw [ka]; rfl, ?_⟩
      (simp only [Go]; dsimp! only [id])
      refine ⟨by decide, fun q hq => ?_⟩
      have kp : ∀ {o : DO}, gup (gup G p (.lst ((z1.filterMap id).map .int))) q o p = some (.lst ((z1.filterMap id).map .int)) := fun {o} => by rw [gup_ne (gne gup_same hq)]; exact gup_same
      have g2 : Grow G (gup (gup G p (.lst ((z1.filterMap id).map .int))) q (.lst [])) := (Grow.refl.new hp).new hq
      refine cmp_ints (ks := z1.filterMap id) (ms := []) (by rw [kp]; rfl) (by rw [gup_same]; rfl) ?_
      by_cases hz : z1.filterMap id = []
      · dsimp! only [hz]
        refine post none _ (by rw [hz] at g2; exact g2) (.inl ⟨rfl, fun y hy => ?_⟩)
        cases y with
        | none => rfl
        | some v =>
          have : v ∈ z1.filterMap id := List.mem_filterMap.mpr ⟨some v, hy, rfl⟩
          rw [hz] at this
          cases this
      · dsimp! only [hz]
        (simp only [Go]; dsimp! only [xMin1, kp, seqOf, allInt_map])
        refine ⟨List.length_pos_iff.mpr hz, fun M hM hm => post (some M) _ g2 (.inr ⟨M, rfl, ?_, fun V hV => hm V (List.mem_filterMap.mpr ⟨some V, hV, rfl⟩)⟩)⟩
        obtain ⟨u, hu, e⟩ := List.mem_filterMap.mp hM
        have : u = some M := e
        rw [← this]; exact hu
    · rintro d r σ G' ⟨z1, z2, v, e, e2, rfl, rfl⟩ ih
      cases z2 with
      | nil => cases e2
      | cons y z2 =>
        cases e2
        refine ⟨by rw [ka]; rfl, ?_⟩
        have hlen := congrArg List.length e
        rw [List.length_append, List.length_cons] at hlen
        have hfl := List.length_filterMap_le id z1
        cases y with
        | none =>
          dsimp! only [oD]
          refine ih _ _ ⟨z1 ++ [none], z2, _, by rw [← e, List.append_assoc]; rfl, rfl, by rw [List.filterMap_append]; simp, rfl⟩
        | some i =>
          dsimp! only [oD]
          refine ⟨by rw [List.length_map]; exact Nat.lt_of_le_of_lt (m := 4000) (by omega) (by decide), ih _ _ ⟨z1 ++ [some i], z2, _, by rw [← e, List.append_assoc]; rfl, rfl, ?_, rfl⟩⟩
          rw [gup_gup, List.filterMap_append, List.map_append]; rfl
theorem ok_law_sum {n : Nat} : Ok P w mg base (n + 1) T.f_law_sum (S_law_sum T) := by
  refine def_ok T.f_law_sum sc_law_sum (fun ds G R h => ?_) (fun cdv A outer s H E hr =>
      (ss_cons (s_if (t_cmp (x_inN hr) e_non (ev 0) (by with_unfolding_all rfl)) (ss_one (s_ret e_non)) ss_nil)
      (ss_one (s_ret (e_callB x_sum rfl T.b_sum (by decide +kernel) (a_cons (ev 0) a_nil)))))) (fun ds G R h => ?_)
  · obtain ⟨a, xs, rfl, _⟩ := h; rfl
  · obtain ⟨a, xs, rfl, ha, post⟩ := h
    dsimp! only [id]
    refine ⟨a, xs, rfl, rfl, by rw [ha]; rfl, ?_⟩
    by_cases hn : none ∈ xs
    · rw [osum_none hn] at post
      dsimp! only [hn]
      exact post
    · obtain ⟨ks, rfl, e⟩ := osum_some hn
      rw [e] at post
      dsimp! only [hn]
      (simp only [Go]; dsimp! only [id])
      refine xsum_ints (ns := ks) (by rw [ha]; simp [seqOf, oD]) ?_
      exact post
theorem ok_law_table {n : Nat} (G_law_least : Ok P w mg base n T.f_law_least (S_law_least T)) (G_law_sum : Ok P w mg base n T.f_law_sum (S_law_sum T)) : Ok P w mg base (n + 1) T.f_law_table (S_law_table T) := by
  refine def_ok T.f_law_table sc_law_table (fun ds G R h => ?_) (fun cdv A outer s H E hr =>
      (ss_cons (s_set 2 sc_law_table.nd (e_callB x_len rfl T.b_len (by decide +kernel) (a_cons (ev 0) a_nil)))
      (ss_cons (s_set 3 sc_law_table.nd e_dnewT)
      (ss_cons (s_for (i_rng1 rfl T.b_range (a_cons (ev 2) a_nil)) (j_name 4 sc_law_table.nd) (ss_one (s_for (i_rng2 rfl T.b_range (a_cons e_int (a_cons (e_bin x_add (ev 2) e_int) a_nil))) (j_name 5 sc_law_table.nd) (ss_one (s_dputD hr (ev 3) (a_cons (ev 4) (a_cons (ev 5) a_nil)) (e_tup (a_cons e_non (a_cons e_non a_nil))))))))
      (ss_cons (s_set 6 sc_law_table.nd (e_lst (a_cons (ev 3) a_nil)))
      (ss_cons (s_for (i_rng2 rfl T.b_range (a_cons e_int (a_cons (e_bin x_add (ev 1) e_int) a_nil))) (j_name 7 sc_law_table.nd) (ss_cons (s_set 8 sc_law_table.nd e_dnewT)
      (ss_cons (s_for (i_rng2 rfl T.b_range (a_cons e_int (a_cons (e_bin x_add (ev 2) e_int) a_nil))) (j_name 5 sc_law_table.nd) (ss_one (s_for (i_rng1 rfl T.b_range (a_cons (e_bin x_add (e_bin x_sub (ev 2) (ev 5)) e_int) a_nil)) (j_name 4 sc_law_table.nd) (ss_cons (s_set 9 sc_law_table.nd (e_lst (a_cons e_non a_nil)))
      (ss_cons (s_set 10 sc_law_table.nd (e_lst (a_cons e_non a_nil)))
      (ss_cons (s_for (i_rng2 rfl T.b_range (a_cons e_int (a_cons (ev 5) a_nil))) (j_name 11 sc_law_table.nd) (ss_cons (s_set 12 sc_law_table.nd (e_ix x_ix (e_dgetD hr (ev 8) (e_tup (a_cons (ev 4) (a_cons (ev 11) a_nil)))) e_int))
      (ss_cons (s_set 13 sc_law_table.nd (e_dgetD hr (e_ix x_ix (ev 6) (e_un x_neg e_int)) (e_tup (a_cons (e_bin x_add (ev 4) (ev 11)) (a_cons (e_bin x_sub (ev 5) (ev 11)) a_nil)))))
      (ss_cons (s_expr (e_append (ev 9) (a_cons (ec T.f_law_sum T.g_law_sum G_law_sum hr (a_cons (e_lst (a_cons (ev 12) (a_cons (e_ix x_ix (ev 13) e_int) (a_cons (e_ix x_ix (e_dgetD hr (e_ix x_ix (ev 6) (e_un x_neg e_int)) (e_tup (a_cons (ev 4) (a_cons (ev 11) a_nil)))) e_int) a_nil)))) a_nil)) a_nil)))
      (ss_one (s_expr (e_append (ev 10) (a_cons (ec T.f_law_sum T.g_law_sum G_law_sum hr (a_cons (e_lst (a_cons (ev 12) (a_cons (e_ix x_ix (ev 13) e_int) a_nil))) a_nil)) a_nil))))))))
      (ss_cons (s_if (t_cmp (x_eq hr) (ev 5) e_int (nomark _)) (ss_cons (s_expr (e_append (ev 9) (a_cons (e_ix x_ix (ev 0) (ev 4)) a_nil)))
      (ss_one (s_expr (e_append (ev 10) (a_cons (e_ix x_ix (ev 0) (ev 4)) a_nil))))) ss_nil)
      (ss_one (s_dputD hr (ev 8) (a_cons (ev 4) (a_cons (ev 5) a_nil)) (e_tup (a_cons (ec T.f_law_least T.g_law_least G_law_least hr (a_cons (ev 9) a_nil)) (a_cons (ec T.f_law_least T.g_law_least G_law_least hr (a_cons (ev 10) a_nil)) a_nil))))))))))))
      (ss_one (s_expr (e_append (ev 6) (a_cons (ev 8) a_nil)))))))
      (ss_one (s_ret (e_dgetD hr (e_ix x_ix (ev 6) (ev 1)) (e_tup (a_cons e_int (a_cons (ev 2) a_nil)))))))))))) (fun ds G R h => ?_)
  · obtain ⟨c, s, pl, rfl, _⟩ := h; rfl
  · obtain ⟨c, s, pl, rfl, hc, h1, h2, h3, post⟩ := h
    dsimp! only [hc, seqOf, List.length_map]
    (simp only [Go]; dsimp! only [dNewD])
    intro q hq
    (simp only [Go]; dsimp! only [id])
    generalize hN0 : Go (dSeq (dAsg (dLst (dCons (dVar 3) dNil)) (jName 6)) _ _) = N0
    have r0 : ∀ (kvs : List (List Key × D)) (G1 : Gp) (v4 v5 : Option D), Grow G G1 → G1 q = some (.dit kvs) → (∀ f z, 1 ≤ z → f + z ≤ pl.length → ∃ d, valD kvs (k2 f z) = some d ∧ PvT (cf pl) 0 f z d) → N0 [some (.ref c), some (.int (s : Int)), some (.int (pl.length : Int)), some (.ref q), v4, v5, none, none, none, none, none, none, none, none] G1 := by
      intro kvs G1 v4 v5 g1 k1 hT
      rw [← hN0]
      (simp only [Go]; dsimp! only [id])
      refine ⟨by decide, fun tl htl => ?_⟩
      (simp only [Go]; dsimp! only [id])
      rw [show ((s : Int) + 1 - 1).toNat = s by omega]
      refine ⟨⟨by decide, by decide, by omega, by omega⟩, ?_⟩
      have gtl : G tl = none := g1.none htl
      refine forL_ind (fun r σ G' => ∃ (P k : Nat) (ts : List D) (t : Addr) (kvs : List (List Key × D)) (v4 v5 v7 v8 v9 v10 v11 v12 v13 : Option D), P + k = s ∧ r = rngD ((P + 1 : Nat) : Int) k ∧ Grow G G' ∧ G' tl = some (.lst (ts ++ [.ref t])) ∧ ts.length = P ∧ G' t = some (.dit kvs) ∧ (∀ f z, 1 ≤ z → f + z ≤ pl.length → ∃ d, valD kvs (k2 f z) = some d ∧ PvT (cf pl) P f z d) ∧ σ = [some (.ref c), some (.int (s : Int)), some (.int (pl.length : Int)), some (.ref q), v4, v5, some (.ref tl), v7, v8, v9, v10, v11, v12, v13]) ⟨0, s, [], q, kvs, v4, v5, none, none, none, none, none, none, none, by omega, rfl, g1.new htl, gup_same, rfl, by rw [gup_ne (gne k1 htl)]; exact k1, hT, rfl⟩ ?_ ?_
      · rintro σ G2 ⟨P, k, ts, t, kv, v4, v5, v7, v8, v9, v10, v11, v12, v13, hk, e2, g2, k2l, hts, k2t, hT2, rfl⟩
        have hk0 : k = 0 := by
          cases k with
          | zero => rfl
          | succ n => rw [rngD_succ] at e2; cases e2
        refine ⟨trivial, ?_⟩
        have hP : P = s := by omega
        subst hP
        have hat : atI (ts ++ [D.ref t]) (P : Int) = some (.ref t) := atI_nat (by rw [List.getElem?_append_right (by omega)]; simp [hts])
        (simp only [Go]; dsimp! only [k2l, seqOf, hat, dGetD])
        obtain ⟨d, hd, x, y, rfl, hx, hy⟩ := hT2 0 pl.length h1 (by omega)
        rw [Nat.zero_add] at hx hy
        exact ⟨by decide, t, kv, k2 0 pl.length, _, rfl, rfl, k2t, hd, post x y _ g2 hx hy⟩
      · rintro z r σ G2 ⟨P, k, ts, t, kv, v4, v5, v7, v8, v9, v10, v11, v12, v13, hk, e2, g2, k2l, hts, k2t, hT2, rfl⟩ ih
        cases k with
        | zero => cases e2
        | succ k =>
          rw [rngD_succ] at e2
          cases e2
          refine ⟨trivial, ?_⟩
          dsimp! only [dNewD]
          intro h hh
          (simp only [Go]; dsimp! only [id])
          rw [show ((pl.length : Int) + 1 - 1).toNat = pl.length by omega]
          refine ⟨⟨by decide, by decide, by omega, by omega⟩, ?_⟩
          refine forL_ind (fun r σ G' => ∃ (Z k : Nat) (kv : List (List Key × D)) (v4 v5 v9 v10 v11 v12 v13 : Option D), 1 ≤ Z ∧ Z + k = pl.length + 1 ∧ r = rngD (Z : Int) k ∧ Grow G2 G' ∧ G' h = some (.dit kv) ∧ TG (fun f z => 1 ≤ z ∧ f + z ≤ pl.length ∧ z < Z) (PvT (cf pl) (P + 1)) kv ∧ kv.length ≤ Z * 32 ∧ σ = [some (.ref c), some (.int (s : Int)), some (.int (pl.length : Int)), some (.ref q), v4, v5, some (.ref tl), some (.int ((P + 1 : Nat) : Int)), some (.ref h), v9, v10, v11, v12, v13]) ⟨1, pl.length, [], v4, v5, v9, v10, v11, v12, v13, by omega, by omega, rfl, Grow.refl.new hh, gup_same, fun f z => ⟨fun x => by omega, fun _ => rfl⟩, by simp, rfl⟩ ?_ ?_
          · rintro σ G3 ⟨Z, k3, kv3, v4, v5, v9, v10, v11, v12, v13, hZ, hk3, e2, g3, k3h, hT3, hl3, rfl⟩
            have hk0 : k3 = 0 := by
              cases k3 with
              | zero => rfl
              | succ n => rw [rngD_succ] at e2; cases e2
            refine ⟨trivial, ?_⟩
            have k3l := g3.kp _ _ k2l
            have ntl : h ≠ tl := fun e => by rw [e, k2l] at hh; cases hh
            (simp only [Go]; dsimp! only [k3l])
            refine ⟨by rw [List.length_append]; exact Nat.lt_of_le_of_lt (m := 1000) (by show ts.length + 1 ≤ 1000; omega) (by decide), ih _ _ ⟨P + 1, k, ts ++ [.ref t], h, kv3, _, _, _, _, _, _, _, _, _, by omega, by congr 1, (g2.trans g3).own gtl, gup_same, by simp [hts], by rw [gup_ne ntl]; exact k3h, fun f z x1 x2 => (hT3 f z).1 ⟨x1, x2, by omega⟩, rfl⟩⟩
          · rintro z r σ G3 ⟨Z, k3, kv3, v4, v5, v9, v10, v11, v12, v13, hZ, hk3, e2, g3, k3h, hT3, hl3, rfl⟩ ih3
            cases k3 with
            | zero => cases e2
            | succ k3 =>
              rw [rngD_succ] at e2
              cases e2
              refine ⟨trivial, ?_⟩
              dsimp! only [id]
              obtain ⟨Q, hQ⟩ : ∃ Q : Nat, pl.length = Z + Q := ⟨pl.length - Z, by omega⟩
              rw [show ((pl.length : Int) - (Z : Int) + 1).toNat = Q + 1 by omega]
              refine ⟨by omega, ?_⟩
              refine forL_ind (fun r σ G' => ∃ (F k : Nat) (kv : List (List Key × D)) (v4 v9 v10 v11 v12 v13 : Option D), F + k = Q + 1 ∧ r = rngD (F : Int) k ∧ Grow G2 G' ∧ G' h = some (.dit kv) ∧ TG (fun f z => 1 ≤ z ∧ f + z ≤ pl.length ∧ (z < Z ∨ (z = Z ∧ f < F))) (PvT (cf pl) (P + 1)) kv ∧ kv.length ≤ Z * 32 + F ∧ σ = [some (.ref c), some (.int (s : Int)), some (.int (pl.length : Int)), some (.ref q), v4, some (.int (Z : Int)), some (.ref tl), some (.int ((P + 1 : Nat) : Int)), some (.ref h), v9, v10, v11, v12, v13]) ⟨0, Q + 1, kv3, v4, v9, v10, v11, v12, v13, by omega, rfl, g3, k3h, hT3.congr (fun f z => by constructor <;> (intro x; omega)), by omega, rfl⟩ ?_ ?_
              · rintro σ G4 ⟨F, k4, kv4, v4, v9, v10, v11, v12, v13, hk4, e2, g4, k4h, hT4, hl4, rfl⟩
                have hk0 : k4 = 0 := by
                  cases k4 with
                  | zero => rfl
                  | succ n => rw [rngD_succ] at e2; cases e2
                exact ⟨trivial, ih3 _ _ ⟨Z + 1, k3, kv4, _, _, _, _, _, _, _, by omega, by omega, by congr 1, g4, k4h, hT4.congr (fun f z => by constructor <;> (intro x; omega)), by omega, rfl⟩⟩
              · rintro z r σ G4 ⟨F, k4, kv4, v4, v9, v10, v11, v12, v13, hk4, e2, g4, k4h, hT4, hl4, rfl⟩ ih4
                cases k4 with
                | zero => cases e2
                | succ k4 =>
                  rw [rngD_succ] at e2
                  cases e2
                  refine ⟨trivial, ?_⟩
                  dsimp! only [id]
                  refine ⟨by decide, fun ab hab => ?_⟩
                  (simp only [Go]; dsimp! only [id])
                  refine ⟨by decide, fun rb hrb => ?_⟩
                  have nab : ab ≠ rb := gne (gup_same (G := G4) (o := .lst [.non])) hrb
                  have frb : G4 rb = none := by rw [gup_ne (Ne.symm nab)] at hrb; exact hrb
                  have ka0 : gup (gup G4 ab (.lst [.non])) rb (.lst [.non]) ab = some (.lst ([none].map oD)) := by rw [gup_ne nab, gup_same]; rfl
                  have g5 : Grow G4 (gup (gup G4 ab (.lst [.non])) rb (.lst [.non])) := (Grow.refl.new hab).new hrb
                  (simp only [Go]; dsimp! only [id])
                  rw [show ((Z : Int) - 1).toNat = Z - 1 by omega]
                  refine ⟨⟨by decide, by decide, by omega, by omega⟩, ?_⟩
                  generalize hN5 : Go (dSeq (dIfS (dB (dOp (xEqB false) (dVar 5) (dC (D.int 1)))) _ _) _ _) = N5
                  refine forL_ind (fun r σ G' => ∃ (M k : Nat) (xa xr : List (Option Int)) (v11 v12 v13 : Option D), 1 ≤ M ∧ M + k = Z ∧ r = rngD (M : Int) k ∧ Grow G4 G' ∧ G' ab = some (.lst (xa.map oD)) ∧ G' rb = some (.lst (xr.map oD)) ∧ Hts (StA (cf pl) P F Z) M xa ∧ Hts (StR (cf pl) P F Z) M xr ∧ xa.length ≤ M ∧ xr.length ≤ M ∧ σ = [some (.ref c), some (.int (s : Int)), some (.int (pl.length : Int)), some (.ref q), some (.int (F : Int)), some (.int (Z : Int)), some (.ref tl), some (.int ((P + 1 : Nat) : Int)), some (.ref h), some (.ref ab), some (.ref rb), v11, v12, v13]) ⟨1, Z - 1, [none], [none], v11, v12, v13, by omega, by omega, rfl, g5, ka0, gup_same, .nil, .nil, by simp, by simp, rfl⟩ ?_ ?_
                  · rintro σ G6 ⟨M, k6, xa, xr, v11, v12, v13, hM, hk6, e2, g6, ka, kr, hA, hR, hla, hlr, rfl⟩
                    have hk0 : k6 = 0 := by
                      cases k6 with
                      | zero => rfl
                      | succ n => rw [rngD_succ] at e2; cases e2
                    refine ⟨trivial, ?_⟩
                    have hMZ : M = Z := by omega
                    subst hMZ
                    rw [← hN5]
                    (simp only [Go]; dsimp! only [id])
                    generalize hN7 : Go (dPutD _ _ _ _) = N7
                    have r7 : ∀ (xa xr : List (Option Int)) (G7 : Gp), Grow G4 G7 → G7 ab = some (.lst (xa.map oD)) → G7 rb = some (.lst (xr.map oD)) → xa.length ≤ 100 → xr.length ≤ 100 → (∀ x, Lst xa x → OA (cf pl) (P + 1) F (F + M) x) → (∀ x, Lst xr x → OR (cf pl) (F + M) (P + 1) F x) → N7 [some (.ref c), some (.int (s : Int)), some (.int (pl.length : Int)), some (.ref q), some (.int (F : Int)), some (.int (M : Int)), some (.ref tl), some (.int ((P + 1 : Nat) : Int)), some (.ref h), some (.ref ab), some (.ref rb), v11, v12, v13] G7 := by
                      intro xa xr G7 g7 ka kr hla hlr hA hR
                      rw [← hN7]
                      (simp only [Go]; dsimp! only [dPutD])
                      refine c_least T ka hla fun x G8 g8 hx => ?_
                      dsimp! only [id]
                      refine c_least T (g8.kp _ _ kr) hlr fun y G9 g9 hy => ?_
                      have gg := g7.trans (g8.trans g9)
                      have hnot : ¬ (1 ≤ M ∧ F + M ≤ pl.length ∧ (M < M ∨ (M = M ∧ F < F))) := by omega
                      dsimp! only [id]
                      refine ⟨by decide, h, kv4, k2 F M, rfl, rfl, by decide, gg.kp _ _ k4h, Nat.lt_of_le_of_lt (m := 1000000) (by omega) (by decide), ih4 _ _ ⟨F + 1, k4, _, _, _, _, _, _, _, by omega, by congr 1, (g4.trans gg).own hh, gup_same, (hT4.put hnot ⟨x, y, rfl, hA x hx, hR y hy⟩).congr (fun f z => by constructor <;> (intro x; omega)), ?_, rfl⟩⟩
                      rw [len_put ((hT4 F M).2 hnot)]
                      omega
                    by_cases hz : M = 1
                    · subst hz
                      have hat : atI (pl.map D.int) (F : Int) = some (.int (cf pl F)) := by
                        refine atI_nat ?_
                        rw [List.getElem?_map, List.getElem?_eq_getElem (by omega), cf_at (by omega)]
                        rfl
                      have kc := fun {G' : Gp} (g : Grow G4 G') => (g2.trans (g4.trans g)).kp _ _ hc
                      rw [if_pos (by decide)]
                      dsimp! only [kc g6, hat, ka]
                      have g7 : Grow G4 (gup G6 ab (.lst (xa.map oD ++ [.int (cf pl F)]))) := g6.own hab
                      have kr7 : gup G6 ab (.lst (xa.map oD ++ [.int (cf pl F)])) rb = some (.lst (xr.map oD)) := by rw [gup_ne (Ne.symm nab)]; exact kr
                      refine ⟨by rw [List.length_map]; exact Nat.lt_of_le_of_lt (m := 1000) (by omega) (by decide), ?_⟩
                      (simp only [Go]; dsimp! only [kc g7, hat, kr7])
                      refine ⟨by rw [List.length_map]; exact Nat.lt_of_le_of_lt (m := 1000) (by omega) (by decide), ?_⟩
                      refine r7 (xa ++ [some (cf pl F)]) (xr ++ [some (cf pl F)]) _ (g7.own frb) (by rw [gup_ne nab, gup_same, List.map_append]; rfl) (by rw [gup_same, List.map_append]; rfl) (by simp; omega) (by simp; omega) (fun x hx => by rw [lst_1n hA.none1 hx]; exact OA.one) (fun x hx => by rw [lst_1n hR.none1 hx]; exact OR.one)
                    · have hz' : ¬ ((M : Int) = 1) := by omega
                      rw [if_neg (by simpa using hz')]
                      exact r7 xa xr G6 g6 ka kr (by omega) (by omega) (fun x hx => lst_A (by omega) hA hx) (fun x hx => lst_R (by omega) hR hx)
                  · rintro z r σ G6 ⟨M, k6, xa, xr, v11, v12, v13, hM, hk6, e2, g6, ka, kr, hA, hR, hla, hlr, rfl⟩ ih6
                    cases k6 with
                    | zero => cases e2
                    | succ k6 =>
                      rw [rngD_succ] at e2
                      cases e2
                      refine ⟨trivial, ?_⟩
                      have eFM : (F : Int) + (M : Int) = ((F + M : Nat) : Int) := by omega
                      have eZM : (Z : Int) - (M : Int) = ((Z - M : Nat) : Int) := by omega
                      obtain ⟨d1, hd1, a1, b1, rfl, ha1, hb1⟩ := (hT4 F M).1 ⟨hM, by omega, .inl (by omega)⟩
                      obtain ⟨d2, hd2, a2, b2, rfl, ha2, hb2⟩ := hT2 (F + M) (Z - M) (by omega) (by omega)
                      obtain ⟨d3, hd3, a3, b3, rfl, ha3, hb3⟩ := hT2 F M hM (by omega)
                      have hat : atI (ts ++ [D.ref t]) (-1) = some (.ref t) := atI_last
                      have kl := fun {G' : Gp} (g : Grow G4 G') => (g4.trans g).kp _ _ k2l
                      have kt := fun {G' : Gp} (g : Grow G4 G') => (g4.trans g).kp _ _ k2t
                      dsimp! only [dGetD]
                      refine ⟨by decide, h, kv4, k2 F M, _, rfl, rfl, g6.kp _ _ k4h, hd1, ?_⟩
                      dsimp! only [id]
                      (simp only [Go]; dsimp! only [kl g6, hat, dGetD, eFM, eZM])
                      refine ⟨by decide, t, kv, k2 (F + M) (Z - M), _, rfl, rfl, kt g6, hd2, ?_⟩
                      (simp only [Go]; dsimp! only [ka])
                      dsimp! only [kl g6, hat, dGetD]
                      refine ⟨by decide, t, kv, k2 F M, _, rfl, rfl, kt g6, hd3, ?_⟩
                      dsimp! only [id]
                      refine ⟨by decide, fun p1 hp1 => ?_⟩
                      have g7 : Grow G4 (gup G6 p1 (.lst ([a1, a2, a3].map oD))) := g6.new hp1
                      have na : ab ≠ p1 := gne ka hp1
                      have nr : rb ≠ p1 := gne kr hp1
                      have ka7 : gup G6 p1 (.lst ([a1, a2, a3].map oD)) ab = some (.lst (xa.map oD)) := by rw [gup_ne na]; exact ka
                      have kr7 : gup G6 p1 (.lst ([a1, a2, a3].map oD)) rb = some (.lst (xr.map oD)) := by rw [gup_ne nr]; exact kr
                      obtain ⟨G7, hG7⟩ : ∃ G7, G7 = gup G6 p1 (.lst ([a1, a2, a3].map oD)) := ⟨_, rfl⟩
                      have kp7 : G7 p1 = some (.lst ([a1, a2, a3].map oD)) := by rw [hG7, gup_same]
                      rw [← hG7] at g7 ka7 kr7
                      rw [show gup G6 p1 (.lst [oD a1, oD a2, oD a3]) = G7 from hG7.symm]
                      refine c_sum T kp7 ?_
                      dsimp! only [ka7]
                      refine ⟨by rw [List.length_map]; exact Nat.lt_of_le_of_lt (m := 1000) (by omega) (by decide), ?_⟩
                      obtain ⟨G8, hG8⟩ : ∃ G8, G8 = gup G7 ab (.lst (xa.map oD ++ [oD (osum [a1, a2, a3])])) := ⟨_, rfl⟩
                      rw [← hG8]
                      have g8 : Grow G4 G8 := by rw [hG8]; exact g7.own hab
                      have ka8 : G8 ab = some (.lst ((xa ++ [osum [a1, a2, a3]]).map oD)) := by rw [hG8, gup_same, List.map_append]; rfl
                      have kr8 : G8 rb = some (.lst (xr.map oD)) := by rw [hG8, gup_ne (Ne.symm nab)]; exact kr7
                      (simp only [Go]; dsimp! only [kr8])
                      refine ⟨by decide, fun p2 hp2 => ?_⟩
                      have g9 : Grow G4 (gup G8 p2 (.lst ([a1, b2].map oD))) := g8.new hp2
                      obtain ⟨G9, hG9⟩ : ∃ G9, G9 = gup G8 p2 (.lst ([a1, b2].map oD)) := ⟨_, rfl⟩
                      have kp9 : G9 p2 = some (.lst ([a1, b2].map oD)) := by rw [hG9, gup_same]
                      have ka9 : G9 ab = some (.lst ((xa ++ [osum [a1, a2, a3]]).map oD)) := by rw [hG9, gup_ne (gne ka8 hp2)]; exact ka8
                      have kr9 : G9 rb = some (.lst (xr.map oD)) := by rw [hG9, gup_ne (gne kr8 hp2)]; exact kr8
                      rw [← hG9] at g9
                      rw [show gup G8 p2 (.lst [oD a1, oD b2]) = G9 from hG9.symm]
                      refine c_sum T kp9 ?_
                      dsimp! only [kr9]
                      refine ⟨by rw [List.length_map]; exact Nat.lt_of_le_of_lt (m := 1000) (by omega) (by decide), ?_⟩
                      rw [show F + M + (Z - M) = F + Z by omega] at ha2 hb2
                      exact ih6 _ _ ⟨M + 1, k6, xa ++ [osum [a1, a2, a3]], xr ++ [osum [a1, b2]], _, _, _, by omega, by omega, by congr 1, g9.own frb, by rw [gup_ne nab]; exact ka9, by rw [gup_same, List.map_append]; rfl, hA.add hM ⟨a1, a2, a3, ha1, ha2, ha3, rfl⟩, hR.add hM ⟨a1, b2, ha1, hb2, rfl⟩, by simp; omega, by simp; omega, rfl⟩
    refine ⟨by omega, ?_⟩
    refine forL_ind (fun r σ G' => ∃ (F k : Nat) (kv : List (List Key × D)) (v4 v5 : Option D), F + k = pl.length ∧ r = rngD (F : Int) k ∧ Grow G G' ∧ G' q = some (.dit kv) ∧ TG (fun f z => 1 ≤ z ∧ z ≤ pl.length ∧ f < F) (PvT (cf pl) 0) kv ∧ kv.length ≤ F * 32 ∧ σ = [some (.ref c), some (.int (s : Int)), some (.int (pl.length : Int)), some (.ref q), v4, v5, none, none, none, none, none, none, none, none]) ⟨0, pl.length, [], none, none, by omega, rfl, Grow.refl.new hq, gup_same, fun f z => ⟨fun x => by omega, fun _ => rfl⟩, by simp, rfl⟩ ?_ ?_
    · rintro σ G1 ⟨F, k, kv, v4, v5, hk, e2, g1, k1, hT, hl, rfl⟩
      have hk0 : k = 0 := by
        cases k with
        | zero => rfl
        | succ n => rw [rngD_succ] at e2; cases e2
      exact ⟨trivial, r0 kv G1 v4 v5 g1 k1 fun f z x1 x2 => (hT f z).1 ⟨x1, by omega, by omega⟩⟩
    · rintro z r σ G1 ⟨F, k, kv, v4, v5, hk, e2, g1, k1, hT, hl, rfl⟩ ih
      cases k with
      | zero => cases e2
      | succ k =>
        rw [rngD_succ] at e2
        cases e2
        refine ⟨trivial, ?_⟩
        dsimp! only [id]
        rw [show ((pl.length : Int) + 1 - 1).toNat = pl.length by omega]
        refine ⟨⟨by decide, by decide, by omega, by omega⟩, ?_⟩
        refine forL_ind (fun r σ G' => ∃ (Z k : Nat) (kv : List (List Key × D)) (v5 : Option D), 1 ≤ Z ∧ Z + k = pl.length + 1 ∧ r = rngD (Z : Int) k ∧ Grow G G' ∧ G' q = some (.dit kv) ∧ TG (fun f z => 1 ≤ z ∧ z ≤ pl.length ∧ (f < F ∨ (f = F ∧ z < Z))) (PvT (cf pl) 0) kv ∧ kv.length ≤ F * 32 + Z ∧ σ = [some (.ref c), some (.int (s : Int)), some (.int (pl.length : Int)), some (.ref q), some (.int (F : Int)), v5, none, none, none, none, none, none, none, none]) ⟨1, pl.length, kv, v5, by omega, by omega, rfl, g1, k1, hT.congr (fun f z => by constructor <;> (intro x; omega)), by omega, rfl⟩ ?_ ?_
        · rintro σ G2 ⟨Z, k2', kv2, v5, hZ, hk2, e2, g2, k2q, hT2, hl2, rfl⟩
          have hk0 : k2' = 0 := by
            cases k2' with
            | zero => rfl
            | succ n => rw [rngD_succ] at e2; cases e2
          exact ⟨trivial, ih _ _ ⟨F + 1, k, kv2, _, _, by omega, by congr 1, g2, k2q, hT2.congr (fun f z => by constructor <;> (intro x; omega)), by omega, rfl⟩⟩
        · rintro z r σ G2 ⟨Z, k2', kv2, v5, hZ, hk2, e2, g2, k2q, hT2, hl2, rfl⟩ ih2
          cases k2' with
          | zero => cases e2
          | succ k2' =>
            rw [rngD_succ] at e2
            cases e2
            refine ⟨trivial, ?_⟩
            dsimp! only [dPutD]
            have hnot : ¬ (1 ≤ Z ∧ Z ≤ pl.length ∧ (F < F ∨ (F = F ∧ Z < Z))) := by omega
            refine ⟨by decide, q, kv2, k2 F Z, rfl, rfl, by decide, k2q, Nat.lt_of_le_of_lt (m := 1000000) (by omega) (by decide), ih2 _ _ ⟨Z + 1, k2', _, _, by omega, by omega, by congr 1, g2.own hq, gup_same, (hT2.put hnot ⟨none, none, rfl, OA.zero, OR.zero⟩).congr (fun f z => by constructor <;> (intro x; omega)), ?_, rfl⟩⟩
            rw [len_put ((hT2 F Z).2 hnot)]
            omega
theorem ok_law_work {n : Nat} : Ok P w mg base (n + 1) T.f_law_work (S_law_work T) := by
  refine def_ok T.f_law_work sc_law_work (fun ds G R h => ?_) (fun cdv A outer s H E hr =>
      (ss_one (s_ret (e_callB x_sum rfl T.b_sum (by decide +kernel) (a_cons (e_comp (N' := ["_law_move", "_law_prices"]) (ix := [none, some 1]) (blk (osc := defScope s_law_work) (N := ["_law_plan", "_law_prices"]) rfl rfl (by decide +kernel)) (i_any (ev 0)) (fun _ _ _ _ => (j_name 0 (show (["_law_move", "_law_prices"] : List Str).Nodup by decide +kernel))) (fun _ _ _ _ => (ifs_one (t_cmp (x_ne hr) (e_ix x_ix (ev 0) e_int) e_str (nomark _)))) (fun _ _ _ _ => (e_ix x_ix (ev 1) (e_bin x_sub (e_ix x_ix (ev 0) e_int) e_int)))) a_nil))))) (fun ds G R h => ?_)
  · obtain ⟨a, b, w, pl, rfl, _⟩ := h; rfl
  · obtain ⟨a, b, w, pl, rfl, ha, hb, hn, hm, post⟩ := h
    dsimp! only [ha]
    intro p hp
    have ha1 : ∀ {o : DO}, gup G p o a = some (.lst (w.map pmD)) := fun {o} => by rw [gup_ne (gne ha hp)]; exact ha
    have hb1 : ∀ {o : DO}, gup G p o b = some (.lst (pl.map .int)) := fun {o} => by rw [gup_ne (gne hb hp)]; exact hb
    refine compL_ind (fun r σ G' => ∃ (x1 x2 : List Pm) (ns : List Int) (v : Option D), x1 ++ x2 = w ∧ r = x2.map pmD ∧ G' = gup G p (.lst (ns.map .int)) ∧ ns.length ≤ x1.length ∧ ns.sum = wkp (cf pl) x1 ∧ σ = [v, some (.ref b)]) ⟨[], w, [], none, rfl, rfl, rfl, by simp, rfl, rfl⟩ ?_ ?_
    · rintro σ G' ⟨x1, x2, ns, v, e, e2, rfl, hl, hs, rfl⟩
      have ht : x2 = [] := by simpa using e2.symm
      subst ht
      rw [List.append_nil] at e
      subst e
      refine ⟨by rw [ha1]; rfl, ?_⟩
      refine xsum_ints (by rw [gup_same]; rfl) ?_
      rw [hs]
      exact post _ (Grow.refl.new hp)
    · rintro z r σ G' ⟨x1, x2, ns, v, e, e2, rfl, hl, hs, rfl⟩ ih
      cases x2 with
      | nil => cases e2
      | cons x x2 =>
        cases e2
        refine ⟨by rw [ha1]; rfl, ?_⟩
        have hlen := congrArg List.length e
        rw [List.length_append, List.length_cons] at hlen
        cases x with
        | none =>
          dsimp! only [pmD]
          exact ih _ _ ⟨x1 ++ [none], x2, ns, _, by rw [← e, List.append_assoc]; rfl, rfl, rfl, by simp; omega, by rw [hs, wkp_app]; show _ = wkp (cf pl) x1 + 0; omega, rfl⟩
        | some y =>
          have hy := hm y (by rw [← e]; simp)
          have hns : ((if y.1 = true then ("lay" : Str) else "clear") = "show") = False := eq_false (by cases y.1 <;> decide)
          have ej : ((y.2 : Nat) : Int) - 1 = ((y.2 - 1 : Nat) : Int) := by omega
          have hat : atI (pl.map D.int) ((y.2 - 1 : Nat) : Int) = some (.int (cf pl (y.2 - 1))) := by
            refine atI_nat ?_
            rw [List.getElem?_map, List.getElem?_eq_getElem (by omega), cf_at (by omega)]
            rfl
          dsimp! only [pmD, mD, pD, mP, hns, ej, hb1, hat]
          refine ⟨by rw [List.length_map]; exact Nat.lt_of_le_of_lt (m := 4000000) (by omega) (by decide), ih _ _ ⟨x1 ++ [some y], x2, ns ++ [cf pl (y.2 - 1)], _, by rw [← e, List.append_assoc]; rfl, rfl, ?_, by simp; omega, by rw [List.sum_append, hs, wkp_app]; show _ = wkp (cf pl) x1 + (cf pl (y.2 - 1) + 0); simp, rfl⟩⟩
          rw [gup_gup, List.map_append]; rfl
theorem ok_law_right {n : Nat} (G_law_pass : Ok P w mg base n T.f_law_pass (S_law_pass T)) (G_law_work : Ok P w mg base n T.f_law_work (S_law_work T)) : Ok P w mg base (n + 1) T.f_law_right (S_law_right T) := by
  refine def_ok T.f_law_right sc_law_right (fun ds G R h => ?_) (fun cdv A outer s H E hr =>
      (ss_cons (s_if (t_cmp (x_is2) (ev 4) e_non (nomark _)) (ss_one (s_ret (e_cmp (x_is2) (ev 0) e_non (nomark _)))) ss_nil)
      (ss_cons (s_if (t_w (w_or (t_not (t_val (e_callB x_isinst rfl T.b_isinstance (by decide +kernel) (a_cons (ev 0) (a_cons (e_type (T := "list") T.b_list (by decide +kernel)) a_nil))))) (w_or1 (t_not (t_val (e_callB x_all rfl T.b_all (by decide +kernel) (a_cons (e_comp (N' := ["_law_move"]) (ix := [none]) (blk (osc := defScope s_law_right) (N := ["_law_plan", "_law_word", "_law_prices", "_law_s", "_law_due"]) rfl rfl (by decide +kernel)) (i_any (ev 0)) (fun _ _ _ _ => (j_name 0 (show (["_law_move"] : List Str).Nodup by decide +kernel))) (fun _ _ _ _ => ifs_nil) (fun _ _ _ _ => (e_callB x_isinstT rfl T.b_isinstance (by decide +kernel) (a_cons (ev 0) (a_cons (e_type (T := "tuple") T.b_tuple (by decide +kernel)) a_nil))))) a_nil))))))) (ss_one (s_ret e_bl)) ss_nil)
      (ss_cons (s_if (t_val (e_callB x_any rfl T.b_any (by decide +kernel) (a_cons (e_comp (N' := ["_law_move"]) (ix := [none]) (blk (osc := defScope s_law_right) (N := ["_law_plan", "_law_word", "_law_prices", "_law_s", "_law_due"]) rfl rfl (by decide +kernel)) (i_any (ev 0)) (fun _ _ _ _ => (j_name 0 (show (["_law_move"] : List Str).Nodup by decide +kernel))) (fun _ _ _ _ => ifs_nil) (fun _ _ _ _ => (e_callB x_isinst rfl T.b_isinstance (by decide +kernel) (a_cons (e_ix x_ix (ev 0) (e_un x_neg e_int)) (a_cons (e_type (T := "bool") T.b_bool (by decide +kernel)) a_nil))))) a_nil))) (ss_one (s_ret e_bl)) ss_nil)
      (ss_one (s_ret (e_and (e_cmp (x_eq hr) (ec T.f_law_pass T.g_law_pass G_law_pass hr (a_cons (ev 0) (a_cons (e_callB x_len rfl T.b_len (by decide +kernel) (a_cons (ev 2) a_nil)) (a_cons (ev 3) a_nil)))) (ev 1) (nomark _)) (e_one (e_cmp (x_eq hr) (ec T.f_law_work T.g_law_work G_law_work hr (a_cons (ev 0) (a_cons (ev 2) a_nil))) (ev 4) (nomark _)))))))))) (fun ds G R h => ?_)
  · obtain ⟨c, s, pl, left, d, x, rfl, _⟩ := h; rfl
  · obtain ⟨c, s, pl, left, d, x, rfl, hc, h1, h2, hd, post⟩ := h
    rcases hd with ⟨rfl, rfl⟩ | ⟨q, P, rfl, kq, hl, hP, rfl⟩
    · dsimp! only [oD]
      exact post _ .refl
    · dsimp! only [oD]
      (simp only [Go]; dsimp! only [kq])
      refine ⟨by decide, ?_⟩
      rw [if_neg (by decide)]
      intro p1 hp1
      have kq1 : ∀ {o : DO}, gup G p1 o q = some (.lst (P.map pmD)) := fun {o} => by rw [gup_ne (gne kq hp1)]; exact kq
      generalize hN1 : Go (dSeq _ _ _) = N1
      have hall : ∀ zs : List Pm, (zs.map fun _ => true).all id = true := fun zs => by
        induction zs with
        | nil => rfl
        | cons z zs ih => rw [List.map_cons, List.all_cons, ih]; rfl
      have hany : ∀ zs : List Pm, (zs.map fun _ => false).any id = false := fun zs => by
        induction zs with
        | nil => rfl
        | cons z zs ih => rw [List.map_cons, List.any_cons, ih]; rfl
      refine compL_ind (fun r σ G' => ∃ (z1 z2 : List Pm) (v : Option D), z1 ++ z2 = P ∧ r = z2.map pmD ∧ G' = gup G p1 (.lst ((z1.map fun _ => true).map .bl)) ∧ σ = [v]) ⟨[], P, none, rfl, rfl, rfl, rfl⟩ ?_ ?_
      · rintro σ G' ⟨z1, z2, v, e1, e2, rfl, rfl⟩
        refine ⟨by rw [kq1]; rfl, ?_⟩
        obtain ⟨G1, hG1⟩ : ∃ G1, G1 = gup G p1 (.lst ((z1.map fun _ => true).map .bl)) := ⟨_, rfl⟩
        have g1 : Grow G G1 := by rw [hG1]; exact Grow.refl.new hp1
        have kk : G1 p1 = some (.lst ((z1.map fun _ => true).map .bl)) := by rw [hG1]; exact gup_same
        rw [← hG1]
        dsimp! only [kk, allBl_map, hall]
        rw [← hN1]
        have kq2 := g1.kp _ _ kq
        (simp only [Go]; dsimp! only [kq2])
        intro p2 hp2
        have kq3 : ∀ {o : DO}, gup G1 p2 o q = some (.lst (P.map pmD)) := fun {o} => by rw [gup_ne (gne kq2 hp2)]; exact kq2
        refine compL_ind (fun r σ G' => ∃ (z1 z2 : List Pm) (v : Option D), z1 ++ z2 = P ∧ r = z2.map pmD ∧ G' = gup G1 p2 (.lst ((z1.map fun _ => false).map .bl)) ∧ σ = [v]) ⟨[], P, none, rfl, rfl, rfl, rfl⟩ ?_ ?_
        · rintro σ G' ⟨z3, z4, v, e1, e2, rfl, rfl⟩
          refine ⟨by rw [kq3]; rfl, p2, z3.map fun _ => false, rfl, by rw [gup_same]; rfl, ?_⟩
          rw [hany]
          obtain ⟨G2, hG2⟩ : ∃ G2, G2 = gup G1 p2 (.lst ((z3.map fun _ => false).map .bl)) := ⟨_, rfl⟩
          have g2 : Grow G G2 := by rw [hG2]; exact g1.new hp2
          rw [← hG2]
          dsimp! only [id]
          (simp only [Go]; dsimp! only [g2.kp _ _ hc, seqOf, List.length_map])
          refine c_pass T (g2.kp _ _ kq) hP h1 (by omega) hl fun G3 g3 => ?_
          have xqs : ∀ {z : Str} {G : Gp} {q : DK}, q (.bl true) G → xEqB false (.str z) (.str z) G q := by
            intro z G q h
            simpa [xEqB] using h
          refine xqs ?_
          dsimp! only [id]
          refine c_work T ((g2.trans g3).kp _ _ kq) ((g2.trans g3).kp _ _ hc) hl hP.mem fun G4 g4 => ?_
          dsimp! only [id]
          exact post _ ((g2.trans g3).trans g4)
        · rintro z r σ G' ⟨z1, z2, v, e1, e2, rfl, rfl⟩ ih
          cases z2 with
          | nil => cases e2
          | cons x z2 =>
            cases e2
            refine ⟨by rw [kq3]; rfl, ?_⟩
            have hlen := congrArg List.length e1
            rw [List.length_append, List.length_cons] at hlen
            cases x with
            | none =>
              have hA : atI [D.str (Str.ofString "show")] (-1) = some (D.str (Str.ofString "show")) := rfl
              dsimp! only [pmD, hA]
              refine ⟨by decide, by rw [List.length_map, List.length_map]; exact Nat.lt_of_le_of_lt (m := 4000000) (by omega) (by decide), ih _ _ ⟨z1 ++ [none], z2, _, by rw [← e1, List.append_assoc]; rfl, rfl, ?_, rfl⟩⟩
              rw [gup_gup, List.map_append, List.map_append]; rfl
            | some y =>
              have hA : atI [D.str (if y.fst = true then Str.ofString "lay" else Str.ofString "clear"), D.int (y.snd : Int)] (-1) = some (D.int (y.snd : Int)) := rfl
              dsimp! only [pmD, mD, pD, mP, hA]
              refine ⟨by decide, by rw [List.length_map, List.length_map]; exact Nat.lt_of_le_of_lt (m := 4000000) (by omega) (by decide), ih _ _ ⟨z1 ++ [some y], z2, _, by rw [← e1, List.append_assoc]; rfl, rfl, ?_, rfl⟩⟩
              rw [gup_gup, List.map_append, List.map_append]; rfl
      · rintro z r σ G' ⟨z1, z2, v, e1, e2, rfl, rfl⟩ ih
        cases z2 with
        | nil => cases e2
        | cons x z2 =>
          cases e2
          refine ⟨by rw [kq1]; rfl, ?_⟩
          have hlen := congrArg List.length e1
          rw [List.length_append, List.length_cons] at hlen
          have hx : ∃ ds, pmD x = .tup ds := by
            cases x with
            | none => exact ⟨_, rfl⟩
            | some y => exact ⟨_, rfl⟩
          obtain ⟨ds, hds⟩ := hx
          dsimp! only [hds]
          refine ⟨by decide, ?_⟩
          dsimp! only [gup_same]
          refine ⟨by rw [List.length_map, List.length_map]; exact Nat.lt_of_le_of_lt (m := 4000000) (by omega) (by decide), ih _ _ ⟨z1 ++ [x], z2, _, by rw [← e1, List.append_assoc]; rfl, rfl, ?_, rfl⟩⟩
          rw [gup_gup, List.map_append, List.map_append]; rfl
theorem ok_law_both {n : Nat} (G_left_plan : Ok P w mg base n T.f_left_plan (S_left_plan T)) (G_shown_plan : Ok P w mg base n T.f_shown_plan (S_shown_plan T)) (G_law_sum : Ok P w mg base n T.f_law_sum (S_law_sum T)) (G_law_table : Ok P w mg base n T.f_law_table (S_law_table T)) (G_law_right : Ok P w mg base n T.f_law_right (S_law_right T)) : Ok P w mg base (n + 1) T.f_law_both (S_law_both T) := by
  refine def_ok T.f_law_both sc_law_both (fun ds G R h => ?_) (fun cdv A outer s H E hr =>
      (ss_cons (s_set 2 sc_law_both.nd (e_callTy x_toList rfl T.b_list (by decide +kernel) (a_cons (ev 0) a_nil)))
      (ss_cons (s_set 3 sc_law_both.nd (ec T.f_law_table T.g_law_table G_law_table hr (a_cons (ev 0) (a_cons (ev 1) a_nil))))
      (ss_cons (s_for (i_rng1 rfl T.b_range (a_cons e_int a_nil)) (j_name 4 sc_law_both.nd) (ss_cons (s_set 5 sc_law_both.nd (ec T.f_left_plan T.g_left_plan G_left_plan hr (a_cons (ev 2) (a_cons (ev 1) a_nil))))
      (ss_cons (s_set 6 sc_law_both.nd (ec T.f_shown_plan T.g_shown_plan G_shown_plan hr (a_cons (ev 2) (a_cons (ev 1) a_nil))))
      (ss_cons (s_if (t_w (w_or (t_not (t_val (ec T.f_law_right T.g_law_right G_law_right hr (a_cons (ev 5) (a_cons e_str (a_cons (ev 0) (a_cons (ev 1) (a_cons (e_ix x_ix (ev 3) e_int) a_nil)))))))) (w_or1 (t_cmp (x_ne hr) (ev 2) (ev 0) (nomark _))))) (ss_one (s_ret e_bl)) ss_nil)
      (ss_cons (s_if (t_not (t_val (ec T.f_law_right T.g_law_right G_law_right hr (a_cons (ev 6) (a_cons e_str (a_cons (ev 0) (a_cons (ev 1) (a_cons (ec T.f_law_sum T.g_law_sum G_law_sum hr (a_cons (e_lst (a_cons (e_ix x_ix (ev 3) e_int) (a_cons (e_ix x_ix (ev 3) e_int) a_nil))) a_nil)) a_nil)))))))) (ss_one (s_ret e_bl)) ss_nil)
      (ss_cons (s_if (t_cmp (x_isNot2) (ev 5) e_non (nomark _)) (ss_one (s_expr (e_clear0 (ev 5)))) ss_nil)
      (ss_one (s_if (t_cmp (x_isNot2) (ev 6) e_non (nomark _)) (ss_one (s_expr (e_append (ev 6) (a_cons (e_tup (a_cons e_str (a_cons e_int a_nil))) a_nil)))) ss_nil))))))))
      (ss_one (s_ret e_bl)))))) (fun ds G R h => ?_)
  · obtain ⟨c, s, pl, rfl, _⟩ := h; rfl
  · obtain ⟨c, s, pl, rfl, hc, h1, h2, h3, post⟩ := h
    dsimp! only [hc, seqOf]
    intro hd hhd
    have g0 : Grow G (gup G hd (.lst (pl.map .int))) := Grow.refl.new hhd
    obtain ⟨G0, hG0⟩ : ∃ G0, G0 = gup G hd (.lst (pl.map .int)) := ⟨_, rfl⟩
    have kd0 : G0 hd = some (.lst (pl.map .int)) := by rw [hG0, gup_same]
    rw [← hG0] at g0 ⊢
    have kc0 := g0.kp _ _ hc
    (simp only [Go]; dsimp! only [id])
    refine c_table T kc0 h1 (by omega) h3 fun x y G1 g1 hx hy => ?_
    dsimp! only [id]
    (simp only [Go]; dsimp! only [id])
    refine ⟨by decide, ?_⟩
    refine forL_ind (fun r σ G' => ∃ (i c' : Nat) (v4 v5 v6 : Option D), i + c' = 2 ∧ r = rngD (i : Int) c' ∧ Grow G0 G' ∧ σ = [some (.ref c), some (.int (s : Int)), some (.ref hd), some (.tup [oD x, oD y]), v4, v5, v6]) ⟨0, 2, none, none, none, by omega, rfl, g1, rfl⟩ ?_ ?_
    · rintro σ G2 ⟨i, c', v4, v5, v6, e, e2, g2, rfl⟩
      refine ⟨trivial, ?_⟩
      (simp only [Go]; dsimp! only [id])
      exact post _ (g0.trans g2)
    · rintro z r σ G2 ⟨i, c', v4, v5, v6, e, e2, g2, rfl⟩ ih
      cases c' with
      | zero => cases e2
      | succ c' =>
        rw [rngD_succ] at e2
        cases e2
        refine ⟨trivial, ?_⟩
        dsimp! only [id]
        refine call_nd (post := fun d G' => Grow G2 G' ∧ ((d = .non ∧ x = none) ∨ ∃ (q : Addr) (P : List Pm), d = .ref q ∧ G2 q = none ∧ G' q = some (.lst (P.map pmD)) ∧ P.length ≤ 4000000 ∧ PLN pl.length s true P ∧ x = some (wkp (cf pl) P))) (fun R h => ⟨hd, s, pl, rfl, g2.kp _ _ kd0, h1, h2, h3, fun G' g => ⟨fun q P f k l p a => h _ _ ⟨g, .inr ⟨q, P, rfl, f, k, l, p, hx.eq (.inl ⟨_, rfl, a⟩)⟩⟩, fun hn => h _ _ ⟨g, .inl ⟨rfl, hx.eq (.inr ⟨rfl, fun w q => hn (by have := q.cap; omega)⟩)⟩⟩⟩⟩) ?_
        rintro dl G3 ⟨g3, hdl⟩
        dsimp! only [id]
        have g23 := g2.trans g3
        (simp only [Go]; dsimp! only [id])
        refine call_nd (post := fun d G' => Grow G3 G' ∧ ((d = .non ∧ osum [y, y] = none) ∨ ∃ (q : Addr) (P : List Pm), d = .ref q ∧ G3 q = none ∧ G' q = some (.lst (P.map pmD)) ∧ P.length ≤ 4000000 ∧ PLN pl.length s false P ∧ osum [y, y] = some (wkp (cf pl) P))) (fun R h => ⟨hd, s, pl, rfl, g23.kp _ _ kd0, h1, h2, h3, fun G' g => ⟨fun q P W f k l p a ew => h _ _ ⟨g, .inr ⟨q, P, rfl, f, k, l, p, by rw [hy.eq (.inl ⟨_, rfl, a⟩), ew]; simp [osum]⟩⟩, fun hn => h _ _ ⟨g, .inl ⟨rfl, by rw [hy.eq (.inr ⟨rfl, fun w q => hn (by have := q.cap; omega)⟩)]; rfl⟩⟩⟩⟩) ?_
        rintro ds G4 ⟨g4, hds⟩
        dsimp! only [id]
        have g24 := g23.trans g4
        (simp only [Go]; dsimp! only [id])
        refine call_nd (post := fun d G' => d = .bl true ∧ Grow G4 G') (fun R h => ⟨c, s, pl, true, dl, x, rfl, g24.kp _ _ kc0, h1, h2, ?_, fun G' g => h _ _ ⟨rfl, g⟩⟩) ?_
        · rcases hdl with h | ⟨q, P, e1, e2, e3, e4, e5, e6⟩
          · exact .inl h
          · exact .inr ⟨q, P, e1, g4.kp _ _ e3, e4, e5, e6⟩
        rintro _ G5 ⟨rfl, g5⟩
        dsimp! only [id]
        have g25 := g24.trans g5
        refine cmp_ints (ks := pl) (ms := pl) (by rw [g25.kp _ _ kd0]; rfl) (by rw [g25.kp _ _ kc0]; rfl) ?_
        rw [decide_eq_true rfl]
        dsimp! only [id]
        (simp only [Go]; dsimp! only [id])
        refine ⟨by decide, fun p6 hp6 => ?_⟩
        have g26 : Grow G5 (gup G5 p6 (.lst ([y, y].map oD))) := Grow.refl.new hp6
        obtain ⟨G6, hG6⟩ : ∃ G6, G6 = gup G5 p6 (.lst ([y, y].map oD)) := ⟨_, rfl⟩
        have kp6 : G6 p6 = some (.lst ([y, y].map oD)) := by rw [hG6, gup_same]
        rw [← hG6] at g26
        rw [show gup G5 p6 (.lst [oD y, oD y]) = G6 from hG6.symm]
        refine c_sum T kp6 ?_
        have g56 := g5.trans g26
        dsimp! only [id]
        refine call_nd (post := fun d G' => d = .bl true ∧ Grow G6 G') (fun R h => ⟨c, s, pl, false, ds, osum [y, y], rfl, (g24.trans g56).kp _ _ kc0, h1, h2, ?_, fun G' g => h _ _ ⟨rfl, g⟩⟩) ?_
        · rcases hds with h | ⟨q, P, e1, e2, e3, e4, e5, e6⟩
          · exact .inl h
          · exact .inr ⟨q, P, e1, g56.kp _ _ e3, e4, e5, e6⟩
        rintro _ G7 ⟨rfl, g7⟩
        dsimp! only [id]
        have g47 := g56.trans g7
        have g27 := g24.trans g47
        generalize hN8 : Go (dIfS (dB (dOp xIsNot2 (dVar 6) (dC D.non))) _ _ _) = N8
        (simp only [Go]; dsimp! only [id])
        rw [hN8]
        have r8 : ∀ (G8 : Gp), Grow G0 G8 → (ds = .non ∨ ∃ (q : Addr) (P : List Pm), ds = .ref q ∧ G0 q = none ∧ G8 q = some (.lst (P.map pmD)) ∧ P.length ≤ 4000000) → N8 [some (.ref c), some (.int (s : Int)), some (.ref hd), some (.tup [oD x, oD y]), some (.int (i : Int)), some dl, some ds] G8 := by
          intro G8 g8 h8
          rw [← hN8]
          rcases h8 with rfl | ⟨q, P, rfl, f, k, l⟩
          · (simp only [Go]; dsimp! only [id])
            exact ih _ _ ⟨i + 1, c', _, _, _, by omega, by congr 1, g8, rfl⟩
          · (simp only [Go]; dsimp! only [k])
            refine ⟨by decide, by rw [List.length_map]; exact Nat.lt_of_le_of_lt (m := 4000000) (by omega) (by decide), ?_⟩
            exact ih _ _ ⟨i + 1, c', _, _, _, by omega, by congr 1, g8.own f, rfl⟩
        have hds8 : ∀ {G8 : Gp}, Grow G4 G8 → (ds = .non ∨ ∃ (q : Addr) (P : List Pm), ds = .ref q ∧ G0 q = none ∧ G8 q = some (.lst (P.map pmD)) ∧ P.length ≤ 4000000) := by
          intro G8 g
          rcases hds with h | ⟨q, P, e1, e2, e3, e4, e5, e6⟩
          · exact .inl h.1
          · exact .inr ⟨q, P, e1, g23.none e2, g.kp _ _ e3, e4⟩
        rcases hdl with ⟨rfl, _⟩ | ⟨q, P, rfl, e2, e3, e4, e5, e6⟩
        · dsimp! only [id]
          exact r8 G7 g27 (hds8 g47)
        · dsimp! only [id]
          have e37 := (g4.trans g47).kp _ _ e3
          rw [e37]
          refine ⟨trivial, r8 _ (g27.own (g2.none e2)) ?_⟩
          rcases hds with h | ⟨q', P', z1, z2, z3, z4, _⟩
          · exact .inl h.1
          · have nq : q' ≠ q := fun h => by rw [h, e3] at z2; cases z2
            exact .inr ⟨q', P', z1, g23.none z2, by rw [gup_ne nq]; exact g47.kp _ _ z3, z4⟩
theorem ok_law {n : Nat} (G_law_draw : Ok P w mg base n T.f_law_draw (S_law_draw T)) (G_law_costs : Ok P w mg base n T.f_law_costs (S_law_costs T)) (G_law_both : Ok P w mg base n T.f_law_both (S_law_both T)) : Ok P w mg base (n + 1) T.f_law (S_law T) := by
  refine def_ok T.f_law sc_law (fun ds G R h => ?_) (fun cdv A outer s H E hr =>
      (ss_cons (s_set 1 sc_law.nd (e_lst (a_cons (ev 0) (a_cons e_int (a_cons e_int a_nil)))))
      (ss_cons (s_set 2 sc_law.nd (e_bin x_add e_int (e_ix x_ix (e_lst (a_cons (ec T.f_law_draw T.g_law_draw G_law_draw hr (a_cons (ev 1) (a_cons e_int a_nil))) (a_cons (ec T.f_law_draw T.g_law_draw G_law_draw hr (a_cons (ev 1) (a_cons e_int a_nil))) a_nil))) (e_callTy x_toInt rfl T.b_int (by decide +kernel) (a_cons (e_cmp (x_eq hr) (ec T.f_law_draw T.g_law_draw G_law_draw hr (a_cons (ev 1) (a_cons e_int a_nil))) e_int (nomark _)) a_nil)))))
      (ss_cons (s_set 3 sc_law.nd (e_ix x_ix (e_lst (a_cons (e_bin x_add e_int (ec T.f_law_draw T.g_law_draw G_law_draw hr (a_cons (ev 1) (a_cons e_int a_nil)))) (a_cons (ec T.f_law_draw T.g_law_draw G_law_draw hr (a_cons (ev 1) (a_cons e_int a_nil))) a_nil))) (e_callTy x_toInt rfl T.b_int (by decide +kernel) (a_cons (e_cmp (x_eq hr) (ec T.f_law_draw T.g_law_draw G_law_draw hr (a_cons (ev 1) (a_cons e_int a_nil))) e_int (nomark _)) a_nil))))
      (ss_cons (s_if (t_cmp (x_eq hr) (ec T.f_law_draw T.g_law_draw G_law_draw hr (a_cons (ev 1) (a_cons e_int a_nil))) e_int (nomark _)) (ss_cons (s_set 2 sc_law.nd (e_bin x_add e_int (ec T.f_law_draw T.g_law_draw G_law_draw hr (a_cons (ev 1) (a_cons e_int a_nil)))))
      (ss_cons (s_set 3 sc_law.nd (e_callB x_min2 rfl T.b_min (by decide +kernel) (a_cons (e_bin x_add e_int (ec T.f_law_draw T.g_law_draw G_law_draw hr (a_cons (ev 1) (a_cons e_int a_nil)))) (a_cons (e_bin x_div e_int (ev 2)) a_nil))))
      (ss_one (s_ret (ec T.f_law_both T.g_law_both G_law_both hr (a_cons (ec T.f_law_costs T.g_law_costs G_law_costs hr (a_cons (ev 1) (a_cons (ev 2) a_nil))) (a_cons (ev 3) a_nil))))))) ss_nil)
      (ss_cons (s_set 4 sc_law.nd (ec T.f_law_costs T.g_law_costs G_law_costs hr (a_cons (ev 1) (a_cons (ev 2) a_nil))))
      (ss_one (s_ret (e_and (ec T.f_law_both T.g_law_both G_law_both hr (a_cons (ev 4) (a_cons (ev 3) a_nil))) (e_and (ec T.f_law_both T.g_law_both G_law_both hr (a_cons (e_back (ev 4)) (a_cons (ev 3) a_nil))) (e_one (ec T.f_law_both T.g_law_both G_law_both hr (a_cons (ev 4) (a_cons (ev 3) a_nil)))))))))))))) (fun ds G R h => ?_)
  · obtain ⟨a, ns, rfl, _⟩ := h; rfl
  · obtain ⟨a, ns, rfl, ha, hns, post⟩ := h
    dsimp! only [id]
    refine ⟨by decide, fun st hst => ?_⟩
    have hast : a ≠ st := gne ha hst
    have S0 : StAt (gup G st (.lst [.ref a, .int 0, .int 0])) st := ⟨a, ns, 0, 0, gup_same, by rw [gup_ne hast]; exact ha, by omega, by omega, hast, hns⟩
    (simp only [Go]; dsimp! only [id])
    refine draw_call S0 (by decide) (by decide) fun x1 G1 a1 p1 q1 => ?_
    dsimp! only [id]
    refine draw_call a1.at_ (by decide) (by decide) fun x2 G2 a2 p2 q2 => ?_
    dsimp! only [id]
    refine ⟨by decide, fun p3 hp3 => ?_⟩
    have A3 := (a1.trans a2).new (o := .lst [.int x1, .int x2]) hp3
    have n3 := a2.at_.ne hp3
    refine draw_call A3.at_ (by decide) (by decide) fun x3 G4 a4 _ _ => ?_
    have k34 := a4.kp _ _ n3 gup_same
    have A4 := A3.trans a4
    obtain ⟨nn, hn, hn9⟩ : ∃ nn : Nat, atI [D.int x1, .int x2] (if decide (x3 = 1) = true then 1 else 0) = some (.int (nn : Int)) ∧ nn ≤ 9 := by
      by_cases e : x3 = 1
      · exact ⟨x2.toNat, by rw [if_pos (by simp [e])]; show some (D.int x2) = _; congr 2; omega, by omega⟩
      · exact ⟨x1.toNat, by rw [if_neg (by simp [e])]; show some (D.int x1) = _; congr 2; omega, by omega⟩
    have en : 1 + (nn : Int) = ((nn + 1 : Nat) : Int) := by omega
    dsimp! only [k34, hn, en]
    (simp only [Go]; dsimp! only [id])
    refine draw_call A4.at_ (by decide) (by decide) fun x4 G5 a5 _ _ => ?_
    dsimp! only [id]
    refine draw_call a5.at_ (by decide) (by decide) fun x5 G6 a6 _ _ => ?_
    dsimp! only [id]
    refine ⟨by decide, fun p6 hp6 => ?_⟩
    have A6 := (a5.trans a6).new (o := .lst [.int (1 + x4), .int x5]) hp6
    have n6 := a6.at_.ne hp6
    refine draw_call A6.at_ (by decide) (by decide) fun x6 G7 a7 _ _ => ?_
    have k67 := a7.kp _ _ n6 gup_same
    have A7 := A6.trans a7
    obtain ⟨s, hs, hs5⟩ : ∃ s : Nat, atI [D.int (1 + x4), .int x5] (if decide (x6 = 1) = true then 1 else 0) = some (.int (s : Int)) ∧ s ≤ 5 := by
      by_cases e : x6 = 1
      · exact ⟨x5.toNat, by rw [if_pos (by simp [e])]; show some (D.int x5) = _; congr 2; omega, by omega⟩
      · exact ⟨(1 + x4).toNat, by rw [if_neg (by simp [e])]; show some (D.int (1 + x4)) = _; congr 2; omega, by omega⟩
    dsimp! only [k67, hs]
    (simp only [Go]; dsimp! only [id])
    have costs : ∀ (G9 : Gp) (n2 : Nat) (q : DK), StAt G9 st → n2 ≤ 20 → (∀ (q' : Addr) (pl : List Int) (G' : Gp), Adv st G9 G' → q' ≠ st → G' q' = some (.lst (pl.map .int)) → pl.length = n2 → q (.ref q') G') → ∃ R, S_law_costs T [.ref st, .int (n2 : Int)] G9 R ∧ ∀ d G', R d G' → q d G' := by
      intro G9 n2 q S9 h9 k
      refine call_nd (post := fun d G' => ∃ (q : Addr) (pl : List Int), d = .ref q ∧ Adv st G9 G' ∧ q ≠ st ∧ G' q = some (.lst (pl.map .int)) ∧ pl.length = n2 ∧ (∀ x ∈ pl, 1 ≤ x ∧ x ≤ 1000000000)) (fun R h => ⟨st, n2, rfl, S9, by omega, fun q pl G' z1 z2 z3 z4 z5 => h _ _ ⟨q, pl, rfl, z1, z2, z3, z4, z5⟩⟩) ?_
      rintro _ G12 ⟨c', pl', rfl, A12, nc', k12, hl', _⟩
      exact k c' pl' G12 A12 nc' k12 hl'
    refine draw_call A7.at_ (by decide) (by decide) fun x7 G8 a8 c1 c2 => ?_
    dsimp! only [id]
    refine ite_d (fun _ => ?_) (fun _ => ?_)
    · refine draw_call a8.at_ (by decide) (by decide) fun x8 G9 a9 c3 c4 => ?_
      obtain ⟨n2, hn2⟩ : ∃ n2 : Nat, 12 + x8 = (n2 : Int) := ⟨(12 + x8).toNat, by omega⟩
      dsimp! only [hn2]
      (simp only [Go]; dsimp! only [id])
      refine draw_call a9.at_ (by decide) (by decide) fun x9 G10 a10 c5 c6 => ?_
      dsimp! only [id]
      obtain ⟨s2, hs2, hs3⟩ : ∃ s2 : Nat, (if 120 / (n2 : Int) < 5 + x9 then 120 / (n2 : Int) else 5 + x9) = (s2 : Int) ∧ s2 ≤ 8 := by
        have hd : 0 ≤ 120 / (n2 : Int) := Int.ediv_nonneg (by decide) (by omega)
        refine ⟨(min (120 / (n2 : Int)) (5 + x9)).toNat, ?_, by omega⟩
        split <;> omega
      rw [hs2]
      refine ⟨⟨by omega, by omega⟩, ?_⟩
      (simp only [Go]; dsimp! only [id])
      refine costs G10 n2 _ a10.at_ (by omega) fun c pl G11 A11 nc k11 hl => ?_
      dsimp! only [id]
      refine c_both T k11 (by omega) (by omega) hs3 fun G12 g12 => ?_
      exact post _
    · (simp only [Go]; dsimp! only [id])
      refine costs G8 (nn + 1) _ a8.at_ (by omega) fun c pl G9 A9 nc k9 hl => ?_
      dsimp! only [id]
      (simp only [Go]; dsimp! only [id])
      refine c_both T k9 (by omega) (by omega) (by omega) fun G10 g10 => ?_
      dsimp! only [g10.kp _ _ k9, seqOf]
      intro p1 hp1
      rw [← List.map_reverse]
      refine c_both T (pl := pl.reverse) gup_same (by simp; omega) (by simp; omega) (by omega) fun G11 g11 => ?_
      dsimp! only [id]
      have kc := g11.kp _ _ ((g10.new (o := .lst (pl.reverse.map .int)) hp1).kp _ _ k9)
      refine c_both T kc (by omega) (by omega) (by omega) fun G12 g12 => ?_
      exact post _
end
end Law

namespace Law
open PySem PySem.Spec PyProof.Rows L2 L3
/-- no list among the module's own objects -/
noncomputable def noL : PySem.W.Frag → Bool
  | [] => true
  | p :: r => (match p.2.data with | .seq _ _ => (match p.2.cls with | .type s => !(s == "list") | _ => true) | _ => true) && noL r
theorem noL_of : ∀ {K : PySem.W.Frag} {a : Addr} {o : Obj} {its : Array Value} {n : Nat}, noL K = true → K.lookup a = some o → o.cls = .type "list" → o.data = .seq its n → False
  | [], a, o, its, n, _, e, _, _ => by cases e
  | p :: r, a, o, its, n, h, e, h1, h2 => by
    unfold noL at h
    rw [Bool.and_eq_true] at h
    rw [List.lookup_cons] at e
    split at e
    · cases e
      have q := h.1
      rw [h2] at q
      simp only [h1] at q
      exact absurd q (by decide)
    · exact noL_of h.2 e h1 h2
theorem ar1 {P : List Value → Prop} (h : ∀ a0, P [a0]) : ∀ us : List Value, us.length = 1 → P us
  | [a0], _ => h a0
theorem ar2 {P : List Value → Prop} (h : ∀ a0 a1, P [a0, a1]) : ∀ us : List Value, us.length = 2 → P us
  | [a0, a1], _ => h a0 a1
theorem ar3 {P : List Value → Prop} (h : ∀ a0 a1 a2, P [a0, a1, a2]) : ∀ us : List Value, us.length = 3 → P us
  | [a0, a1, a2], _ => h a0 a1 a2
theorem ar4 {P : List Value → Prop} (h : ∀ a0 a1 a2 a3, P [a0, a1, a2, a3]) : ∀ us : List Value, us.length = 4 → P us
  | [a0, a1, a2, a3], _ => h a0 a1 a2 a3
theorem ar5 {P : List Value → Prop} (h : ∀ a0 a1 a2 a3 a4, P [a0, a1, a2, a3, a4]) : ∀ us : List Value, us.length = 5 → P us
  | [a0, a1, a2, a3, a4], _ => h a0 a1 a2 a3 a4
noncomputable def fnAt_mk {K : PySem.W.Frag} {x qual : Str} {st : Stmt} {ps : List Str} {f : Addr} {oc : Value} {od an : Option Addr} {osl : Array (Option Value)} {kV doc pm cdv ct : Value} (l : K.lookup f = some ⟨oc, od, .func (PySem.W.fnOf x qual (defArgs st) (defBody st) (defScope st) .none kV doc pm an cdv ct), osl⟩)
    (c : PySem.W.codeIn K cdv qual = true) (k : PySem.W.keepIn K (.ref f) = true) (hb : ∀ us : List Value, us.length = ps.length → bindArgs (PySem.W.fnOf x qual (defArgs st) (defBody st) (defScope st) .none kV doc pm an cdv ct) ⟨us, []⟩ = pure (ps.zip us)) : FnAt K x qual st ps :=
  ⟨f, _, ⟨oc, od, .none, kV, doc, pm, an, cdv, ct, osl, rfl, l, c⟩, k, .all hb⟩
noncomputable def spLaw3 : Sp3 := fun ds G R => ∃ (a : Addr) (ns : List Int), ds = [.ref a] ∧ G a = some (.fro (ns.map .int)) ∧ ns.length ≤ 63 ∧ ∀ G', R (.bl true) G'
theorem rel_ints {K : PySem.W.Frag} {H : Hp} : ∀ ns : List Int, RelDs K H (ns.map D.int) (ns.map V.int)
  | [] => .nil
  | _ :: ns => .cons RelD.intI (rel_ints ns)
theorem law_sp {K : PySem.W.Frag} {H : Hp} {a : Addr} {ns : List Int} (hL : noL K = true) (hl : ns.length ≤ 63) (hO : Only H) (hS : SqL K H a (ns.map V.int)) : lowSp K spLaw3 [.ref a] H (fun v _ => v = .bl true) fun _ _ _ => False := by
  have ha : ∃ o, H a = some (.frz o (.lst (ns.map V.int))) := by
    rcases hS with (h | h) | ⟨o, its, n, h1, h2, _, h3, _⟩
    · rcases hO a with z | ⟨o, xs, z⟩
      · rw [h] at z; cases z
      · rw [h] at z; cases z
    · exact h
    · exact (noL_of hL h1 h2 h3).elim
  obtain ⟨o, ha⟩ := ha
  refine ⟨[.ref a], gup (fun _ => none) a (.fro (ns.map .int)), fun d _ => d = .bl true, .cons ?_ .nil, fun b u e => ?_, ⟨a, ns, rfl, gup_same, hl, fun _ => rfl⟩, fun d G' v H' r _ _ e => ?_⟩
  · rw [RelD]
  · by_cases hb : b = a
    · subst hb
      rw [gup_same] at e
      cases e
      exact ⟨o, _, ha, rel_ints ns⟩
    · rw [gup_ne hb] at e; cases e
  · subst e
    rw [RelD] at r
    exact r
end Law
namespace Law
open PySem PySem.Spec PyProof.Rows L2 L3 Rw
set_option maxHeartbeats 4000000
theorem txt_mk {K : PySem.W.Frag} {h : Heap} {mg : Str → Option Value} (X : K.In h) (G : h.Ns mainGlobals mg) 
    {p_turned_plan : Addr} {od_turned_plan an_turned_plan : Option Addr} {sl_turned_plan : Array (Option Value)} {oc_turned_plan kV_turned_plan dc_turned_plan pm_turned_plan cd_turned_plan ct_turned_plan : Value}
    {p_turned_move : Addr} {od_turned_move an_turned_move : Option Addr} {sl_turned_move : Array (Option Value)} {oc_turned_move kV_turned_move dc_turned_move pm_turned_move cd_turned_move ct_turned_move : Value}
    {p_reach : Addr} {od_reach an_reach : Option Addr} {sl_reach : Array (Option Value)} {oc_reach kV_reach dc_reach pm_reach cd_reach ct_reach : Value}
    {p_alone_reach : Addr} {od_alone_reach an_alone_reach : Option Addr} {sl_alone_reach : Array (Option Value)} {oc_alone_reach kV_alone_reach dc_alone_reach pm_alone_reach cd_alone_reach ct_alone_reach : Value}
    {p_alone_table : Addr} {od_alone_table an_alone_table : Option Addr} {sl_alone_table : Array (Option Value)} {oc_alone_table kV_alone_table dc_alone_table pm_alone_table cd_alone_table ct_alone_table : Value}
    {p_least_alone : Addr} {od_least_alone an_least_alone : Option Addr} {sl_least_alone : Array (Option Value)} {oc_least_alone kV_least_alone dc_least_alone pm_least_alone cd_least_alone ct_least_alone : Value}
    {p_alone_by : Addr} {od_alone_by an_alone_by : Option Addr} {sl_alone_by : Array (Option Value)} {oc_alone_by kV_alone_by dc_alone_by pm_alone_by cd_alone_by ct_alone_by : Value}
    {p_reached_table : Addr} {od_reached_table an_reached_table : Option Addr} {sl_reached_table : Array (Option Value)} {oc_reached_table kV_reached_table dc_reached_table pm_reached_table cd_reached_table ct_reached_table : Value}
    {p_least_reached : Addr} {od_least_reached an_least_reached : Option Addr} {sl_least_reached : Array (Option Value)} {oc_least_reached kV_least_reached dc_least_reached pm_least_reached cd_least_reached ct_least_reached : Value}
    {p_left_plan : Addr} {od_left_plan an_left_plan : Option Addr} {sl_left_plan : Array (Option Value)} {oc_left_plan kV_left_plan dc_left_plan pm_left_plan cd_left_plan ct_left_plan : Value}
    {p_shown_plan : Addr} {od_shown_plan an_shown_plan : Option Addr} {sl_shown_plan : Array (Option Value)} {oc_shown_plan kV_shown_plan dc_shown_plan pm_shown_plan cd_shown_plan ct_shown_plan : Value}
    {p_left_way : Addr} {od_left_way an_left_way : Option Addr} {sl_left_way : Array (Option Value)} {oc_left_way kV_left_way dc_left_way pm_left_way cd_left_way ct_left_way : Value}
    {p_reached_way : Addr} {od_reached_way an_reached_way : Option Addr} {sl_reached_way : Array (Option Value)} {oc_reached_way kV_reached_way dc_reached_way pm_reached_way cd_reached_way ct_reached_way : Value}
    {p_law_draw : Addr} {od_law_draw an_law_draw : Option Addr} {sl_law_draw : Array (Option Value)} {oc_law_draw kV_law_draw dc_law_draw pm_law_draw cd_law_draw ct_law_draw : Value}
    {p_law_behind : Addr} {od_law_behind an_law_behind : Option Addr} {sl_law_behind : Array (Option Value)} {oc_law_behind kV_law_behind dc_law_behind pm_law_behind cd_law_behind ct_law_behind : Value}
    {p_law_one : Addr} {od_law_one an_law_one : Option Addr} {sl_law_one : Array (Option Value)} {oc_law_one kV_law_one dc_law_one pm_law_one cd_law_one ct_law_one : Value}
    {p_law_pass : Addr} {od_law_pass an_law_pass : Option Addr} {sl_law_pass : Array (Option Value)} {oc_law_pass kV_law_pass dc_law_pass pm_law_pass cd_law_pass ct_law_pass : Value}
    {p_law_costs : Addr} {od_law_costs an_law_costs : Option Addr} {sl_law_costs : Array (Option Value)} {oc_law_costs kV_law_costs dc_law_costs pm_law_costs cd_law_costs ct_law_costs : Value}
    {p_law_least : Addr} {od_law_least an_law_least : Option Addr} {sl_law_least : Array (Option Value)} {oc_law_least kV_law_least dc_law_least pm_law_least cd_law_least ct_law_least : Value}
    {p_law_sum : Addr} {od_law_sum an_law_sum : Option Addr} {sl_law_sum : Array (Option Value)} {oc_law_sum kV_law_sum dc_law_sum pm_law_sum cd_law_sum ct_law_sum : Value}
    {p_law_table : Addr} {od_law_table an_law_table : Option Addr} {sl_law_table : Array (Option Value)} {oc_law_table kV_law_table dc_law_table pm_law_table cd_law_table ct_law_table : Value}
    {p_law_work : Addr} {od_law_work an_law_work : Option Addr} {sl_law_work : Array (Option Value)} {oc_law_work kV_law_work dc_law_work pm_law_work cd_law_work ct_law_work : Value}
    {p_law_right : Addr} {od_law_right an_law_right : Option Addr} {sl_law_right : Array (Option Value)} {oc_law_right kV_law_right dc_law_right pm_law_right cd_law_right ct_law_right : Value}
    {p_law_both : Addr} {od_law_both an_law_both : Option Addr} {sl_law_both : Array (Option Value)} {oc_law_both kV_law_both dc_law_both pm_law_both cd_law_both ct_law_both : Value}
    {p_law : Addr} {od_law an_law : Option Addr} {sl_law : Array (Option Value)} {oc_law kV_law dc_law pm_law cd_law ct_law : Value}
    (a_turned_plan : PySem.W.nsIn K mainGlobals "turned_plan" = some (some (.ref p_turned_plan)))
    (l_turned_plan : K.lookup p_turned_plan = some ⟨oc_turned_plan, od_turned_plan, .func (PySem.W.fnOf "turned_plan" "turned_plan" (defArgs s_turned_plan) (defBody s_turned_plan) (defScope s_turned_plan) .none kV_turned_plan dc_turned_plan pm_turned_plan an_turned_plan cd_turned_plan ct_turned_plan), sl_turned_plan⟩)
    (c_turned_plan : PySem.W.codeIn K cd_turned_plan "turned_plan" = true)
    (k_turned_plan : PySem.W.keepIn K (.ref p_turned_plan) = true)
    (a_turned_move : PySem.W.nsIn K mainGlobals "turned_move" = some (some (.ref p_turned_move)))
    (l_turned_move : K.lookup p_turned_move = some ⟨oc_turned_move, od_turned_move, .func (PySem.W.fnOf "turned_move" "turned_move" (defArgs s_turned_move) (defBody s_turned_move) (defScope s_turned_move) .none kV_turned_move dc_turned_move pm_turned_move an_turned_move cd_turned_move ct_turned_move), sl_turned_move⟩)
    (c_turned_move : PySem.W.codeIn K cd_turned_move "turned_move" = true)
    (k_turned_move : PySem.W.keepIn K (.ref p_turned_move) = true)
    (a_reach : PySem.W.nsIn K mainGlobals "reach" = some (some (.ref p_reach)))
    (l_reach : K.lookup p_reach = some ⟨oc_reach, od_reach, .func (PySem.W.fnOf "reach" "reach" (defArgs s_reach) (defBody s_reach) (defScope s_reach) .none kV_reach dc_reach pm_reach an_reach cd_reach ct_reach), sl_reach⟩)
    (c_reach : PySem.W.codeIn K cd_reach "reach" = true)
    (k_reach : PySem.W.keepIn K (.ref p_reach) = true)
    (a_alone_reach : PySem.W.nsIn K mainGlobals "alone_reach" = some (some (.ref p_alone_reach)))
    (l_alone_reach : K.lookup p_alone_reach = some ⟨oc_alone_reach, od_alone_reach, .func (PySem.W.fnOf "alone_reach" "alone_reach" (defArgs s_alone_reach) (defBody s_alone_reach) (defScope s_alone_reach) .none kV_alone_reach dc_alone_reach pm_alone_reach an_alone_reach cd_alone_reach ct_alone_reach), sl_alone_reach⟩)
    (c_alone_reach : PySem.W.codeIn K cd_alone_reach "alone_reach" = true)
    (k_alone_reach : PySem.W.keepIn K (.ref p_alone_reach) = true)
    (a_alone_table : PySem.W.nsIn K mainGlobals "alone_table" = some (some (.ref p_alone_table)))
    (l_alone_table : K.lookup p_alone_table = some ⟨oc_alone_table, od_alone_table, .func (PySem.W.fnOf "alone_table" "alone_table" (defArgs s_alone_table) (defBody s_alone_table) (defScope s_alone_table) .none kV_alone_table dc_alone_table pm_alone_table an_alone_table cd_alone_table ct_alone_table), sl_alone_table⟩)
    (c_alone_table : PySem.W.codeIn K cd_alone_table "alone_table" = true)
    (k_alone_table : PySem.W.keepIn K (.ref p_alone_table) = true)
    (a_least_alone : PySem.W.nsIn K mainGlobals "least_alone" = some (some (.ref p_least_alone)))
    (l_least_alone : K.lookup p_least_alone = some ⟨oc_least_alone, od_least_alone, .func (PySem.W.fnOf "least_alone" "least_alone" (defArgs s_least_alone) (defBody s_least_alone) (defScope s_least_alone) .none kV_least_alone dc_least_alone pm_least_alone an_least_alone cd_least_alone ct_least_alone), sl_least_alone⟩)
    (c_least_alone : PySem.W.codeIn K cd_least_alone "least_alone" = true)
    (k_least_alone : PySem.W.keepIn K (.ref p_least_alone) = true)
    (a_alone_by : PySem.W.nsIn K mainGlobals "alone_by" = some (some (.ref p_alone_by)))
    (l_alone_by : K.lookup p_alone_by = some ⟨oc_alone_by, od_alone_by, .func (PySem.W.fnOf "alone_by" "alone_by" (defArgs s_alone_by) (defBody s_alone_by) (defScope s_alone_by) .none kV_alone_by dc_alone_by pm_alone_by an_alone_by cd_alone_by ct_alone_by), sl_alone_by⟩)
    (c_alone_by : PySem.W.codeIn K cd_alone_by "alone_by" = true)
    (k_alone_by : PySem.W.keepIn K (.ref p_alone_by) = true)
    (a_reached_table : PySem.W.nsIn K mainGlobals "reached_table" = some (some (.ref p_reached_table)))
    (l_reached_table : K.lookup p_reached_table = some ⟨oc_reached_table, od_reached_table, .func (PySem.W.fnOf "reached_table" "reached_table" (defArgs s_reached_table) (defBody s_reached_table) (defScope s_reached_table) .none kV_reached_table dc_reached_table pm_reached_table an_reached_table cd_reached_table ct_reached_table), sl_reached_table⟩)
    (c_reached_table : PySem.W.codeIn K cd_reached_table "reached_table" = true)
    (k_reached_table : PySem.W.keepIn K (.ref p_reached_table) = true)
    (a_least_reached : PySem.W.nsIn K mainGlobals "least_reached" = some (some (.ref p_least_reached)))
    (l_least_reached : K.lookup p_least_reached = some ⟨oc_least_reached, od_least_reached, .func (PySem.W.fnOf "least_reached" "least_reached" (defArgs s_least_reached) (defBody s_least_reached) (defScope s_least_reached) .none kV_least_reached dc_least_reached pm_least_reached an_least_reached cd_least_reached ct_least_reached), sl_least_reached⟩)
    (c_least_reached : PySem.W.codeIn K cd_least_reached "least_reached" = true)
    (k_least_reached : PySem.W.keepIn K (.ref p_least_reached) = true)
    (a_left_plan : PySem.W.nsIn K mainGlobals "left_plan" = some (some (.ref p_left_plan)))
    (l_left_plan : K.lookup p_left_plan = some ⟨oc_left_plan, od_left_plan, .func (PySem.W.fnOf "left_plan" "left_plan" (defArgs s_left_plan) (defBody s_left_plan) (defScope s_left_plan) .none kV_left_plan dc_left_plan pm_left_plan an_left_plan cd_left_plan ct_left_plan), sl_left_plan⟩)
    (c_left_plan : PySem.W.codeIn K cd_left_plan "left_plan" = true)
    (k_left_plan : PySem.W.keepIn K (.ref p_left_plan) = true)
    (a_shown_plan : PySem.W.nsIn K mainGlobals "shown_plan" = some (some (.ref p_shown_plan)))
    (l_shown_plan : K.lookup p_shown_plan = some ⟨oc_shown_plan, od_shown_plan, .func (PySem.W.fnOf "shown_plan" "shown_plan" (defArgs s_shown_plan) (defBody s_shown_plan) (defScope s_shown_plan) .none kV_shown_plan dc_shown_plan pm_shown_plan an_shown_plan cd_shown_plan ct_shown_plan), sl_shown_plan⟩)
    (c_shown_plan : PySem.W.codeIn K cd_shown_plan "shown_plan" = true)
    (k_shown_plan : PySem.W.keepIn K (.ref p_shown_plan) = true)
    (a_left_way : PySem.W.nsIn K mainGlobals "left_way" = some (some (.ref p_left_way)))
    (l_left_way : K.lookup p_left_way = some ⟨oc_left_way, od_left_way, .func (PySem.W.fnOf "left_way" "left_way" (defArgs s_left_way) (defBody s_left_way) (defScope s_left_way) .none kV_left_way dc_left_way pm_left_way an_left_way cd_left_way ct_left_way), sl_left_way⟩)
    (c_left_way : PySem.W.codeIn K cd_left_way "left_way" = true)
    (k_left_way : PySem.W.keepIn K (.ref p_left_way) = true)
    (a_reached_way : PySem.W.nsIn K mainGlobals "reached_way" = some (some (.ref p_reached_way)))
    (l_reached_way : K.lookup p_reached_way = some ⟨oc_reached_way, od_reached_way, .func (PySem.W.fnOf "reached_way" "reached_way" (defArgs s_reached_way) (defBody s_reached_way) (defScope s_reached_way) .none kV_reached_way dc_reached_way pm_reached_way an_reached_way cd_reached_way ct_reached_way), sl_reached_way⟩)
    (c_reached_way : PySem.W.codeIn K cd_reached_way "reached_way" = true)
    (k_reached_way : PySem.W.keepIn K (.ref p_reached_way) = true)
    (a_law_draw : PySem.W.nsIn K mainGlobals "_law_draw" = some (some (.ref p_law_draw)))
    (l_law_draw : K.lookup p_law_draw = some ⟨oc_law_draw, od_law_draw, .func (PySem.W.fnOf "_law_draw" "_law_draw" (defArgs s_law_draw) (defBody s_law_draw) (defScope s_law_draw) .none kV_law_draw dc_law_draw pm_law_draw an_law_draw cd_law_draw ct_law_draw), sl_law_draw⟩)
    (c_law_draw : PySem.W.codeIn K cd_law_draw "_law_draw" = true)
    (k_law_draw : PySem.W.keepIn K (.ref p_law_draw) = true)
    (a_law_behind : PySem.W.nsIn K mainGlobals "_law_behind" = some (some (.ref p_law_behind)))
    (l_law_behind : K.lookup p_law_behind = some ⟨oc_law_behind, od_law_behind, .func (PySem.W.fnOf "_law_behind" "_law_behind" (defArgs s_law_behind) (defBody s_law_behind) (defScope s_law_behind) .none kV_law_behind dc_law_behind pm_law_behind an_law_behind cd_law_behind ct_law_behind), sl_law_behind⟩)
    (c_law_behind : PySem.W.codeIn K cd_law_behind "_law_behind" = true)
    (k_law_behind : PySem.W.keepIn K (.ref p_law_behind) = true)
    (a_law_one : PySem.W.nsIn K mainGlobals "_law_one" = some (some (.ref p_law_one)))
    (l_law_one : K.lookup p_law_one = some ⟨oc_law_one, od_law_one, .func (PySem.W.fnOf "_law_one" "_law_one" (defArgs s_law_one) (defBody s_law_one) (defScope s_law_one) .none kV_law_one dc_law_one pm_law_one an_law_one cd_law_one ct_law_one), sl_law_one⟩)
    (c_law_one : PySem.W.codeIn K cd_law_one "_law_one" = true)
    (k_law_one : PySem.W.keepIn K (.ref p_law_one) = true)
    (a_law_pass : PySem.W.nsIn K mainGlobals "_law_pass" = some (some (.ref p_law_pass)))
    (l_law_pass : K.lookup p_law_pass = some ⟨oc_law_pass, od_law_pass, .func (PySem.W.fnOf "_law_pass" "_law_pass" (defArgs s_law_pass) (defBody s_law_pass) (defScope s_law_pass) .none kV_law_pass dc_law_pass pm_law_pass an_law_pass cd_law_pass ct_law_pass), sl_law_pass⟩)
    (c_law_pass : PySem.W.codeIn K cd_law_pass "_law_pass" = true)
    (k_law_pass : PySem.W.keepIn K (.ref p_law_pass) = true)
    (a_law_costs : PySem.W.nsIn K mainGlobals "_law_costs" = some (some (.ref p_law_costs)))
    (l_law_costs : K.lookup p_law_costs = some ⟨oc_law_costs, od_law_costs, .func (PySem.W.fnOf "_law_costs" "_law_costs" (defArgs s_law_costs) (defBody s_law_costs) (defScope s_law_costs) .none kV_law_costs dc_law_costs pm_law_costs an_law_costs cd_law_costs ct_law_costs), sl_law_costs⟩)
    (c_law_costs : PySem.W.codeIn K cd_law_costs "_law_costs" = true)
    (k_law_costs : PySem.W.keepIn K (.ref p_law_costs) = true)
    (a_law_least : PySem.W.nsIn K mainGlobals "_law_least" = some (some (.ref p_law_least)))
    (l_law_least : K.lookup p_law_least = some ⟨oc_law_least, od_law_least, .func (PySem.W.fnOf "_law_least" "_law_least" (defArgs s_law_least) (defBody s_law_least) (defScope s_law_least) .none kV_law_least dc_law_least pm_law_least an_law_least cd_law_least ct_law_least), sl_law_least⟩)
    (c_law_least : PySem.W.codeIn K cd_law_least "_law_least" = true)
    (k_law_least : PySem.W.keepIn K (.ref p_law_least) = true)
    (a_law_sum : PySem.W.nsIn K mainGlobals "_law_sum" = some (some (.ref p_law_sum)))
    (l_law_sum : K.lookup p_law_sum = some ⟨oc_law_sum, od_law_sum, .func (PySem.W.fnOf "_law_sum" "_law_sum" (defArgs s_law_sum) (defBody s_law_sum) (defScope s_law_sum) .none kV_law_sum dc_law_sum pm_law_sum an_law_sum cd_law_sum ct_law_sum), sl_law_sum⟩)
    (c_law_sum : PySem.W.codeIn K cd_law_sum "_law_sum" = true)
    (k_law_sum : PySem.W.keepIn K (.ref p_law_sum) = true)
    (a_law_table : PySem.W.nsIn K mainGlobals "_law_table" = some (some (.ref p_law_table)))
    (l_law_table : K.lookup p_law_table = some ⟨oc_law_table, od_law_table, .func (PySem.W.fnOf "_law_table" "_law_table" (defArgs s_law_table) (defBody s_law_table) (defScope s_law_table) .none kV_law_table dc_law_table pm_law_table an_law_table cd_law_table ct_law_table), sl_law_table⟩)
    (c_law_table : PySem.W.codeIn K cd_law_table "_law_table" = true)
    (k_law_table : PySem.W.keepIn K (.ref p_law_table) = true)
    (a_law_work : PySem.W.nsIn K mainGlobals "_law_work" = some (some (.ref p_law_work)))
    (l_law_work : K.lookup p_law_work = some ⟨oc_law_work, od_law_work, .func (PySem.W.fnOf "_law_work" "_law_work" (defArgs s_law_work) (defBody s_law_work) (defScope s_law_work) .none kV_law_work dc_law_work pm_law_work an_law_work cd_law_work ct_law_work), sl_law_work⟩)
    (c_law_work : PySem.W.codeIn K cd_law_work "_law_work" = true)
    (k_law_work : PySem.W.keepIn K (.ref p_law_work) = true)
    (a_law_right : PySem.W.nsIn K mainGlobals "_law_right" = some (some (.ref p_law_right)))
    (l_law_right : K.lookup p_law_right = some ⟨oc_law_right, od_law_right, .func (PySem.W.fnOf "_law_right" "_law_right" (defArgs s_law_right) (defBody s_law_right) (defScope s_law_right) .none kV_law_right dc_law_right pm_law_right an_law_right cd_law_right ct_law_right), sl_law_right⟩)
    (c_law_right : PySem.W.codeIn K cd_law_right "_law_right" = true)
    (k_law_right : PySem.W.keepIn K (.ref p_law_right) = true)
    (a_law_both : PySem.W.nsIn K mainGlobals "_law_both" = some (some (.ref p_law_both)))
    (l_law_both : K.lookup p_law_both = some ⟨oc_law_both, od_law_both, .func (PySem.W.fnOf "_law_both" "_law_both" (defArgs s_law_both) (defBody s_law_both) (defScope s_law_both) .none kV_law_both dc_law_both pm_law_both an_law_both cd_law_both ct_law_both), sl_law_both⟩)
    (c_law_both : PySem.W.codeIn K cd_law_both "_law_both" = true)
    (k_law_both : PySem.W.keepIn K (.ref p_law_both) = true)
    (a_law : PySem.W.nsIn K mainGlobals "law" = some (some (.ref p_law)))
    (l_law : K.lookup p_law = some ⟨oc_law, od_law, .func (PySem.W.fnOf "law" "law" (defArgs s_law) (defBody s_law) (defScope s_law) .none kV_law dc_law pm_law an_law cd_law ct_law), sl_law⟩)
    (c_law : PySem.W.codeIn K cd_law "law" = true)
    (k_law : PySem.W.keepIn K (.ref p_law) = true)
    (b_abs : PySem.W.nsIn K mainGlobals "abs" = some none)
    (b_all : PySem.W.nsIn K mainGlobals "all" = some none)
    (b_any : PySem.W.nsIn K mainGlobals "any" = some none)
    (b_bool : PySem.W.nsIn K mainGlobals "bool" = some none)
    (b_divmod : PySem.W.nsIn K mainGlobals "divmod" = some none)
    (b_enumerate : PySem.W.nsIn K mainGlobals "enumerate" = some none)
    (b_int : PySem.W.nsIn K mainGlobals "int" = some none)
    (b_isinstance : PySem.W.nsIn K mainGlobals "isinstance" = some none)
    (b_len : PySem.W.nsIn K mainGlobals "len" = some none)
    (b_list : PySem.W.nsIn K mainGlobals "list" = some none)
    (b_max : PySem.W.nsIn K mainGlobals "max" = some none)
    (b_min : PySem.W.nsIn K mainGlobals "min" = some none)
    (b_range : PySem.W.nsIn K mainGlobals "range" = some none)
    (b_reversed : PySem.W.nsIn K mainGlobals "reversed" = some none)
    (b_sorted : PySem.W.nsIn K mainGlobals "sorted" = some none)
    (b_sum : PySem.W.nsIn K mainGlobals "sum" = some none)
    (b_tuple : PySem.W.nsIn K mainGlobals "tuple" = some none) :
    ∃ T : Txt K mg, ∀ (s : Shared) (v : Value), BindsTo s T.f_law.fd ⟨[v], []⟩ [("_law_script", v)] := by
  let f_turned_plan : FnAt K "turned_plan" "turned_plan" s_turned_plan ["plan"] := fnAt_mk (st := s_turned_plan) l_turned_plan c_turned_plan k_turned_plan (ar1 fun _ => rfl)
  let f_turned_move : FnAt K "turned_move" "turned_move" s_turned_move ["move"] := fnAt_mk (st := s_turned_move) l_turned_move c_turned_move k_turned_move (ar1 fun _ => rfl)
  let f_reach : FnAt K "reach" "reach" s_reach ["s"] := fnAt_mk (st := s_reach) l_reach c_reach k_reach (ar1 fun _ => rfl)
  let f_alone_reach : FnAt K "alone_reach" "alone_reach" s_alone_reach ["s"] := fnAt_mk (st := s_alone_reach) l_alone_reach c_alone_reach k_alone_reach (ar1 fun _ => rfl)
  let f_alone_table : FnAt K "alone_table" "alone_table" s_alone_table ["costs", "s"] := fnAt_mk (st := s_alone_table) l_alone_table c_alone_table k_alone_table (ar2 fun _ _ => rfl)
  let f_least_alone : FnAt K "least_alone" "least_alone" s_least_alone ["costs", "places", "begin", "end", "table"] := fnAt_mk (st := s_least_alone) l_least_alone c_least_alone k_least_alone (ar5 fun _ _ _ _ _ => rfl)
  let f_alone_by : FnAt K "alone_by" "alone_by" s_alone_by ["places", "begin", "middle", "end", "table"] := fnAt_mk (st := s_alone_by) l_alone_by c_alone_by k_alone_by (ar5 fun _ _ _ _ _ => rfl)
  let f_reached_table : FnAt K "reached_table" "reached_table" s_reached_table ["costs", "s", "alones"] := fnAt_mk (st := s_reached_table) l_reached_table c_reached_table k_reached_table (ar3 fun _ _ _ => rfl)
  let f_least_reached : FnAt K "least_reached" "least_reached" s_least_reached ["costs", "places", "begin", "alones", "table"] := fnAt_mk (st := s_least_reached) l_least_reached c_least_reached k_least_reached (ar5 fun _ _ _ _ _ => rfl)
  let f_left_plan : FnAt K "left_plan" "left_plan" s_left_plan ["costs", "s"] := fnAt_mk (st := s_left_plan) l_left_plan c_left_plan k_left_plan (ar2 fun _ _ => rfl)
  let f_shown_plan : FnAt K "shown_plan" "shown_plan" s_shown_plan ["costs", "s"] := fnAt_mk (st := s_shown_plan) l_shown_plan c_shown_plan k_shown_plan (ar2 fun _ _ => rfl)
  let f_left_way : FnAt K "left_way" "left_way" s_left_way ["places", "begin", "end", "alones"] := fnAt_mk (st := s_left_way) l_left_way c_left_way k_left_way (ar4 fun _ _ _ _ => rfl)
  let f_reached_way : FnAt K "reached_way" "reached_way" s_reached_way ["places", "begin", "end", "alones", "reacheds"] := fnAt_mk (st := s_reached_way) l_reached_way c_reached_way k_reached_way (ar5 fun _ _ _ _ _ => rfl)
  let f_law_draw : FnAt K "_law_draw" "_law_draw" s_law_draw ["_law_state", "_law_many"] := fnAt_mk (st := s_law_draw) l_law_draw c_law_draw k_law_draw (ar2 fun _ _ => rfl)
  let f_law_behind : FnAt K "_law_behind" "_law_behind" s_law_behind ["_law_there", "_law_move"] := fnAt_mk (st := s_law_behind) l_law_behind c_law_behind k_law_behind (ar2 fun _ _ => rfl)
  let f_law_one : FnAt K "_law_one" "_law_one" s_law_one ["_law_there", "_law_shown", "_law_move", "_law_n", "_law_s"] := fnAt_mk (st := s_law_one) l_law_one c_law_one k_law_one (ar5 fun _ _ _ _ _ => rfl)
  let f_law_pass : FnAt K "_law_pass" "_law_pass" s_law_pass ["_law_plan", "_law_n", "_law_s"] := fnAt_mk (st := s_law_pass) l_law_pass c_law_pass k_law_pass (ar3 fun _ _ _ => rfl)
  let f_law_costs : FnAt K "_law_costs" "_law_costs" s_law_costs ["_law_state", "_law_n"] := fnAt_mk (st := s_law_costs) l_law_costs c_law_costs k_law_costs (ar2 fun _ _ => rfl)
  let f_law_least : FnAt K "_law_least" "_law_least" s_law_least ["_law_some"] := fnAt_mk (st := s_law_least) l_law_least c_law_least k_law_least (ar1 fun _ => rfl)
  let f_law_sum : FnAt K "_law_sum" "_law_sum" s_law_sum ["_law_parts"] := fnAt_mk (st := s_law_sum) l_law_sum c_law_sum k_law_sum (ar1 fun _ => rfl)
  let f_law_table : FnAt K "_law_table" "_law_table" s_law_table ["_law_prices", "_law_s"] := fnAt_mk (st := s_law_table) l_law_table c_law_table k_law_table (ar2 fun _ _ => rfl)
  let f_law_work : FnAt K "_law_work" "_law_work" s_law_work ["_law_plan", "_law_prices"] := fnAt_mk (st := s_law_work) l_law_work c_law_work k_law_work (ar2 fun _ _ => rfl)
  let f_law_right : FnAt K "_law_right" "_law_right" s_law_right ["_law_plan", "_law_word", "_law_prices", "_law_s", "_law_due"] := fnAt_mk (st := s_law_right) l_law_right c_law_right k_law_right (ar5 fun _ _ _ _ _ => rfl)
  let f_law_both : FnAt K "_law_both" "_law_both" s_law_both ["_law_prices", "_law_s"] := fnAt_mk (st := s_law_both) l_law_both c_law_both k_law_both (ar2 fun _ _ => rfl)
  let f_law : FnAt K "law" "law" s_law ["_law_script"] := fnAt_mk (st := s_law) l_law c_law k_law (ar1 fun _ => rfl)
  exact ⟨⟨f_turned_plan, PySem.W.mg_of X G a_turned_plan, f_turned_move, PySem.W.mg_of X G a_turned_move, f_reach, PySem.W.mg_of X G a_reach, f_alone_reach, PySem.W.mg_of X G a_alone_reach, f_alone_table, PySem.W.mg_of X G a_alone_table, f_least_alone, PySem.W.mg_of X G a_least_alone, f_alone_by, PySem.W.mg_of X G a_alone_by, f_reached_table, PySem.W.mg_of X G a_reached_table, f_least_reached, PySem.W.mg_of X G a_least_reached, f_left_plan, PySem.W.mg_of X G a_left_plan, f_shown_plan, PySem.W.mg_of X G a_shown_plan, f_left_way, PySem.W.mg_of X G a_left_way, f_reached_way, PySem.W.mg_of X G a_reached_way, f_law_draw, PySem.W.mg_of X G a_law_draw, f_law_behind, PySem.W.mg_of X G a_law_behind, f_law_one, PySem.W.mg_of X G a_law_one, f_law_pass, PySem.W.mg_of X G a_law_pass, f_law_costs, PySem.W.mg_of X G a_law_costs, f_law_least, PySem.W.mg_of X G a_law_least, f_law_sum, PySem.W.mg_of X G a_law_sum, f_law_table, PySem.W.mg_of X G a_law_table, f_law_work, PySem.W.mg_of X G a_law_work, f_law_right, PySem.W.mg_of X G a_law_right, f_law_both, PySem.W.mg_of X G a_law_both, f_law, PySem.W.mg_of X G a_law, PySem.W.mg_none_of X G b_abs, PySem.W.mg_none_of X G b_all, PySem.W.mg_none_of X G b_any, PySem.W.mg_none_of X G b_bool, PySem.W.mg_none_of X G b_divmod, PySem.W.mg_none_of X G b_enumerate, PySem.W.mg_none_of X G b_int, PySem.W.mg_none_of X G b_isinstance, PySem.W.mg_none_of X G b_len, PySem.W.mg_none_of X G b_list, PySem.W.mg_none_of X G b_max, PySem.W.mg_none_of X G b_min, PySem.W.mg_none_of X G b_range, PySem.W.mg_none_of X G b_reversed, PySem.W.mg_none_of X G b_sorted, PySem.W.mg_none_of X G b_sum, PySem.W.mg_none_of X G b_tuple⟩, fun s v => .of_eq rfl⟩
theorem all_ok {P : Program} {w : World} {K : PySem.W.Frag} {mg : Str → Option Value} {base : Heap} (T : Txt K mg) : Ok P w mg base 57 T.f_law (S_law T) := by
  have H_law_draw : Ok P w mg base 1 T.f_law_draw (S_law_draw T) := ok_law_draw T (n := 0)
  have H_law_costs : Ok P w mg base 2 T.f_law_costs (S_law_costs T) := ok_law_costs T (n := 1) (FnOk.mono H_law_draw (by decide))
  have H_alone_reach : Ok P w mg base 1 T.f_alone_reach (S_alone_reach T) := ok_alone_reach T (n := 0)
  have H_alone_by : Ok P w mg base 1 T.f_alone_by (S_alone_by T) := ok_alone_by T (n := 0)
  have H_least_alone : Ok P w mg base 2 T.f_least_alone (S_least_alone T) := ok_least_alone T (n := 1) (FnOk.mono H_alone_reach (by decide)) (FnOk.mono H_alone_by (by decide))
  have H_alone_table : Ok P w mg base 3 T.f_alone_table (S_alone_table T) := ok_alone_table T (n := 2) (FnOk.mono H_alone_reach (by decide)) (FnOk.mono H_least_alone (by decide))
  have H_turned_move : Ok P w mg base 1 T.f_turned_move (S_turned_move T) := ok_turned_move T (n := 0)
  have H_turned_plan : Ok P w mg base 2 T.f_turned_plan (S_turned_plan T) := ok_turned_plan T (n := 1) (FnOk.mono H_turned_move (by decide))
  have R_left_way : ∀ dp, Ok P w mg base (2 + dp) T.f_left_way (S_left_way_r T dp) := by
    intro dp
    induction dp with
    | zero => exact z_left_way T
    | succ dp ih => exact ok_left_way T (n := 2 + dp) (dp := dp) (FnOk.mono H_turned_plan (by omega)) ih
  have H_left_way : Ok P w mg base 28 T.f_left_way (S_left_way T) := R_left_way 26
  have H_left_plan : Ok P w mg base 29 T.f_left_plan (S_left_plan T) := ok_left_plan T (n := 28) (FnOk.mono H_alone_table (by decide)) (FnOk.mono H_left_way (by decide))
  have H_reach : Ok P w mg base 1 T.f_reach (S_reach T) := ok_reach T (n := 0)
  have H_least_reached : Ok P w mg base 2 T.f_least_reached (S_least_reached T) := ok_least_reached T (n := 1) (FnOk.mono H_reach (by decide)) (FnOk.mono H_alone_reach (by decide))
  have H_reached_table : Ok P w mg base 3 T.f_reached_table (S_reached_table T) := ok_reached_table T (n := 2) (FnOk.mono H_reach (by decide)) (FnOk.mono H_least_reached (by decide))
  have R_reached_way : ∀ dp, Ok P w mg base (28 + dp) T.f_reached_way (S_reached_way_r T dp) := by
    intro dp
    induction dp with
    | zero => exact z_reached_way T
    | succ dp ih => exact ok_reached_way T (n := 28 + dp) (dp := dp) (FnOk.mono H_left_way (by omega)) ih
  have H_reached_way : Ok P w mg base 54 T.f_reached_way (S_reached_way T) := R_reached_way 26
  have H_shown_plan : Ok P w mg base 55 T.f_shown_plan (S_shown_plan T) := ok_shown_plan T (n := 54) (FnOk.mono H_turned_plan (by decide)) (FnOk.mono H_alone_table (by decide)) (FnOk.mono H_reached_table (by decide)) (FnOk.mono H_reached_way (by decide))
  have H_law_sum : Ok P w mg base 1 T.f_law_sum (S_law_sum T) := ok_law_sum T (n := 0)
  have H_law_least : Ok P w mg base 1 T.f_law_least (S_law_least T) := ok_law_least T (n := 0)
  have H_law_table : Ok P w mg base 2 T.f_law_table (S_law_table T) := ok_law_table T (n := 1) (FnOk.mono H_law_least (by decide)) (FnOk.mono H_law_sum (by decide))
  have H_law_behind : Ok P w mg base 1 T.f_law_behind (S_law_behind T) := ok_law_behind T (n := 0)
  have H_law_one : Ok P w mg base 1 T.f_law_one (S_law_one T) := ok_law_one T (n := 0)
  have H_law_pass : Ok P w mg base 2 T.f_law_pass (S_law_pass T) := ok_law_pass T (n := 1) (FnOk.mono H_law_behind (by decide)) (FnOk.mono H_law_one (by decide))
  have H_law_work : Ok P w mg base 1 T.f_law_work (S_law_work T) := ok_law_work T (n := 0)
  have H_law_right : Ok P w mg base 3 T.f_law_right (S_law_right T) := ok_law_right T (n := 2) (FnOk.mono H_law_pass (by decide)) (FnOk.mono H_law_work (by decide))
  have H_law_both : Ok P w mg base 56 T.f_law_both (S_law_both T) := ok_law_both T (n := 55) (FnOk.mono H_left_plan (by decide)) (FnOk.mono H_shown_plan (by decide)) (FnOk.mono H_law_sum (by decide)) (FnOk.mono H_law_table (by decide)) (FnOk.mono H_law_right (by decide))
  have H_law : Ok P w mg base 57 T.f_law (S_law T) := ok_law T (n := 56) (FnOk.mono H_law_draw (by decide)) (FnOk.mono H_law_costs (by decide)) (FnOk.mono H_law_both (by decide))
  exact H_law
theorem walk {l : PySem.W.OpenLaw} {q : Program} {loose : List Str} {XP : (Str → Option Value) → Heap → Prop} {YP : World → Heap → Prop} {d : DefRec} {K : Params → PySem.W.Frag} (hn : l.most = some 63) (hdf : d.params.defaults = [])
    (hY : ∀ (w : World) (h : Heap), YP w h → (K w.params).In h) (hL : ∀ w : World, noL (K w.params) = true)
    (F : ∀ (w : World) (mg : Str → Option Value) (fa : Addr) (h : Heap), (K w.params).In h → h.Ns mainGlobals mg → mg d.name = some (.ref fa) → ∃ T : Txt (K w.params) mg, ∀ (s : Shared) (v : Value), BindsTo s T.f_law.fd ⟨[v], []⟩ [("_law_script", v)]) (hdn : d.name = "law" := by rfl) :
    PySem.W.WalkO q loose XP YP l.row.toRowW d [] (fun f vs => PySem.call f vs) := by
  refine L2.walk_of (n := 63) (k := 57) (x := "_law_script") (CX := fun _ => CX0) (sp := fun w => lowSp (K w.params) spLaw3) hn (by decide) hdf ⟨rfl, by decide, by decide⟩ hY (fun w mg fa h hK hN hm => ?_) (fun w H a ns hl hO hS => law_sp (hL w) hl hO hS) fun _ _ _ _ _ z => z
  obtain ⟨T, hb⟩ := F w mg fa h hK hN hm
  rw [hdn] at hm
  have e := hm.symm.trans T.g_law
  cases e
  exact ⟨T.f_law.fd, hb, fun base _ _ => all_ok T⟩
end Law

open PySem PySem.W PyProof.Rows
set_option maxHeartbeats 0 in
theorem PySem.Challenge.cw_nolitter_k36_plans_of_least_work_holds : PySem.Challenge.rw_nolitter_k36_plans_of_least_work.Holds := by
  w_on; o_law; k_head; (case hw => w_witness2)
  k_fill
  refine Law.walk (l := PySem.Challenge.rw_nolitter_k36_plans_of_least_work) rfl rfl (fun w h Y => PySem.W.kIn_of Y) ?L ?F
  case L => exact fun w => rfl
  case F =>
    intro w mg fa h KX G hmg
    refine' Law.txt_mk KX G ?a_turned_plan ?l_turned_plan ?c_turned_plan ?k_turned_plan ?a_turned_move ?l_turned_move ?c_turned_move ?k_turned_move ?a_reach ?l_reach ?c_reach ?k_reach ?a_alone_reach ?l_alone_reach ?c_alone_reach ?k_alone_reach ?a_alone_table ?l_alone_table ?c_alone_table ?k_alone_table ?a_least_alone ?l_least_alone ?c_least_alone ?k_least_alone ?a_alone_by ?l_alone_by ?c_alone_by ?k_alone_by ?a_reached_table ?l_reached_table ?c_reached_table ?k_reached_table ?a_least_reached ?l_least_reached ?c_least_reached ?k_least_reached ?a_left_plan ?l_left_plan ?c_left_plan ?k_left_plan ?a_shown_plan ?l_shown_plan ?c_shown_plan ?k_shown_plan ?a_left_way ?l_left_way ?c_left_way ?k_left_way ?a_reached_way ?l_reached_way ?c_reached_way ?k_reached_way ?a_law_draw ?l_law_draw ?c_law_draw ?k_law_draw ?a_law_behind ?l_law_behind ?c_law_behind ?k_law_behind ?a_law_one ?l_law_one ?c_law_one ?k_law_one ?a_law_pass ?l_law_pass ?c_law_pass ?k_law_pass ?a_law_costs ?l_law_costs ?c_law_costs ?k_law_costs ?a_law_least ?l_law_least ?c_law_least ?k_law_least ?a_law_sum ?l_law_sum ?c_law_sum ?k_law_sum ?a_law_table ?l_law_table ?c_law_table ?k_law_table ?a_law_work ?l_law_work ?c_law_work ?k_law_work ?a_law_right ?l_law_right ?c_law_right ?k_law_right ?a_law_both ?l_law_both ?c_law_both ?k_law_both ?a_law ?l_law ?c_law ?k_law ?b_abs ?b_all ?b_any ?b_bool ?b_divmod ?b_enumerate ?b_int ?b_isinstance ?b_len ?b_list ?b_max ?b_min ?b_range ?b_reversed ?b_sorted ?b_sum ?b_tuple
    (case a_turned_plan => k_is)
    (case l_turned_plan => k_is)
    (case c_turned_plan => k_is)
    (case k_turned_plan => k_is)
    (case a_turned_move => k_is)
    (case l_turned_move => k_is)
    (case c_turned_move => k_is)
    (case k_turned_move => k_is)
    (case a_reach => k_is)
    (case l_reach => k_is)
    (case c_reach => k_is)
    (case k_reach => k_is)
    (case a_alone_reach => k_is)
    (case l_alone_reach => k_is)
    (case c_alone_reach => k_is)
    (case k_alone_reach => k_is)
    (case a_alone_table => k_is)
    (case l_alone_table => k_is)
    (case c_alone_table => k_is)
    (case k_alone_table => k_is)
    (case a_least_alone => k_is)
    (case l_least_alone => k_is)
    (case c_least_alone => k_is)
    (case k_least_alone => k_is)
    (case a_alone_by => k_is)
    (case l_alone_by => k_is)
    (case c_alone_by => k_is)
    (case k_alone_by => k_is)
    (case a_reached_table => k_is)
    (case l_reached_table => k_is)
    (case c_reached_table => k_is)
    (case k_reached_table => k_is)
    (case a_least_reached => k_is)
    (case l_least_reached => k_is)
    (case c_least_reached => k_is)
    (case k_least_reached => k_is)
    (case a_left_plan => k_is)
    (case l_left_plan => k_is)
    (case c_left_plan => k_is)
    (case k_left_plan => k_is)
    (case a_shown_plan => k_is)
    (case l_shown_plan => k_is)
    (case c_shown_plan => k_is)
    (case k_shown_plan => k_is)
    (case a_left_way => k_is)
    (case l_left_way => k_is)
    (case c_left_way => k_is)
    (case k_left_way => k_is)
    (case a_reached_way => k_is)
    (case l_reached_way => k_is)
    (case c_reached_way => k_is)
    (case k_reached_way => k_is)
    (case a_law_draw => k_is)
    (case l_law_draw => k_is)
    (case c_law_draw => k_is)
    (case k_law_draw => k_is)
    (case a_law_behind => k_is)
    (case l_law_behind => k_is)
    (case c_law_behind => k_is)
    (case k_law_behind => k_is)
    (case a_law_one => k_is)
    (case l_law_one => k_is)
    (case c_law_one => k_is)
    (case k_law_one => k_is)
    (case a_law_pass => k_is)
    (case l_law_pass => k_is)
    (case c_law_pass => k_is)
    (case k_law_pass => k_is)
    (case a_law_costs => k_is)
    (case l_law_costs => k_is)
    (case c_law_costs => k_is)
    (case k_law_costs => k_is)
    (case a_law_least => k_is)
    (case l_law_least => k_is)
    (case c_law_least => k_is)
    (case k_law_least => k_is)
    (case a_law_sum => k_is)
    (case l_law_sum => k_is)
    (case c_law_sum => k_is)
    (case k_law_sum => k_is)
    (case a_law_table => k_is)
    (case l_law_table => k_is)
    (case c_law_table => k_is)
    (case k_law_table => k_is)
    (case a_law_work => k_is)
    (case l_law_work => k_is)
    (case c_law_work => k_is)
    (case k_law_work => k_is)
    (case a_law_right => k_is)
    (case l_law_right => k_is)
    (case c_law_right => k_is)
    (case k_law_right => k_is)
    (case a_law_both => k_is)
    (case l_law_both => k_is)
    (case c_law_both => k_is)
    (case k_law_both => k_is)
    (case a_law => k_is)
    (case l_law => k_is)
    (case c_law => k_is)
    (case k_law => k_is)
    (case b_abs => k_is)
    (case b_all => k_is)
    (case b_any => k_is)
    (case b_bool => k_is)
    (case b_divmod => k_is)
    (case b_enumerate => k_is)
    (case b_int => k_is)
    (case b_isinstance => k_is)
    (case b_len => k_is)
    (case b_list => k_is)
    (case b_max => k_is)
    (case b_min => k_is)
    (case b_range => k_is)
    (case b_reversed => k_is)
    (case b_sorted => k_is)
    (case b_sum => k_is)
    (case b_tuple => k_is)

