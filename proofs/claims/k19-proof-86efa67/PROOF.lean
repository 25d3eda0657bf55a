import PyProof.Rows.All
import Wide.All
import OpenK.AllK
import Wide.FinOn
import Lean
import PyProof.EqAt
import PyProof.EqKinds
import PyProof.TupleCall
import PyProof.NeKinds
import PySem.Challenge.RW_nolitter_k19_runs
set_option Elab.async false
set_option linter.all false
set_option maxRecDepth 100000
/-! THE HAND LAYER, for ints, bools, texts, own classes, LISTS and tuples (index, slices, in, append, pop ..), calls, loops. Paste it whole ahead of your own text; what your proof does not reach may be deleted. -/
namespace L2
open PySem PySem.Spec PyProof.Rows

/-- a key: an int or a str -/
noncomputable abbrev Key := Sum Int Str
noncomputable def keyIs : Key → Value → Bool
  | .inl k, v => Value.isInt k v
  | .inr x, v => Value.isStrOf x v
noncomputable def keyH (w : World) : Key → Int
  | .inl k => hashInt k
  | .inr x => hashStr w x
theorem keyIs_shape : ∀ {k : Key} {v : Value}, keyIs k v = true → (∃ i t, k = Sum.inl i ∧ v = Value.int i t) ∨ (∃ x t, k = Sum.inr x ∧ v = Value.str x t)
  | .inl i, v, h => by
    obtain ⟨t, e⟩ := Value.isInt_shape (k := i) (v := v) h
    exact .inl ⟨i, t, rfl, e⟩
  | .inr x, v, h => by
    obtain ⟨t, e⟩ := Value.isStrOf_shape (x := x) (v := v) h
    exact .inr ⟨x, t, rfl, e⟩
theorem key_ll (a b : Int) : decide ((Sum.inl a : Key) = Sum.inl b) = (a == b) := by
  by_cases e : a = b
  · subst e; simp
  · have h : ¬ (Sum.inl a : Key) = Sum.inl b := fun q => e (Sum.inl.inj q)
    rw [decide_eq_false h]
    exact (beq_eq_false_iff_ne.mpr e).symm
theorem key_rr (a b : Str) : decide ((Sum.inr a : Key) = Sum.inr b) = decide (a = b) := by
  by_cases e : a = b
  · subst e; simp
  · have h : ¬ (Sum.inr a : Key) = Sum.inr b := fun q => e (Sum.inr.inj q)
    rw [decide_eq_false h, decide_eq_false e]
theorem key_lr (a : Int) (b : Str) : decide ((Sum.inl a : Key) = Sum.inr b) = false := decide_eq_false (fun q => nomatch q)
theorem key_rl (a : Str) (b : Int) : decide ((Sum.inr a : Key) = Sum.inl b) = false := decide_eq_false (fun q => nomatch q)

noncomputable def mixKind (prog : Program) (w : World) : PySem.KeyKind prog w Key where
  is := keyIs
  hash := keyH w
  inj := fun v a b ha hb => by
    rcases keyIs_shape ha with ⟨i, t, rfl, rfl⟩ | ⟨x, t, rfl, rfl⟩
    · rcases keyIs_shape hb with ⟨j, u, rfl, e⟩ | ⟨y, u, rfl, e⟩
      · injection e with e1 _; rw [e1]
      · exact nomatch e
    · rcases keyIs_shape hb with ⟨j, u, rfl, e⟩ | ⟨y, u, rfl, e⟩
      · exact nomatch e
      · injection e with e1 _; rw [e1]
  byValue := fun k v h => by
    rcases keyIs_shape h with ⟨i, t, rfl, rfl⟩ | ⟨x, t, rfl, rfl⟩ <;> rfl
  pyHash := fun hv h => by
    rcases keyIs_shape hv with ⟨i, t, rfl, rfl⟩ | ⟨x, t, rfl, rfl⟩
    · exact wpAny_pyHash_int h
    · exact wpAny_pyHash_str h
  eqBool := fun hu hv h => by
    rcases keyIs_shape hu with ⟨i, t, rfl, rfl⟩ | ⟨x, t, rfl, rfl⟩
    · rcases keyIs_shape hv with ⟨j, u, rfl, rfl⟩ | ⟨y, u, rfl, rfl⟩
      · rw [key_ll] at h; exact wpAny_eqBool_int h
      · rw [key_lr] at h; exact SeqAt.EqAt.int_str i t y u _ _ _ _ h
    · rcases keyIs_shape hv with ⟨j, u, rfl, rfl⟩ | ⟨y, u, rfl, rfl⟩
      · rw [key_rl] at h; exact SeqAt.EqAt.str_int x t j u _ _ _ _ h
      · rw [key_rr] at h; exact wpAny_eqBool_str h
  «strs» := fun k x t v h => by
    rcases keyIs_shape h with ⟨i, u, rfl, e⟩ | ⟨y, u, rfl, e⟩
    · exact nomatch e
    · injection e with e1 _
      subst e1
      cases v <;> rfl

end L2

namespace L2
open PySem PySem.Spec PyProof.Rows

/-- a value, without the heap -/
inductive V where
  | non | bl (b : Bool) | int (i : Int) | str (x : Str) | byt (b : Array UInt8) | flt (b : UInt64) | ref (a : Addr) | ty (n : String)
  deriving DecidableEq

noncomputable def RelV : V → Value → Prop
  | .non, u => u = Value.none
  | .bl b, u => u = Value.bool b
  | .int i, u => ∃ t, u = Value.int i t
  | .str x, u => ∃ t, u = Value.str x t
  | .byt b, u => ∃ t, u = Value.bytes b t
  | .flt b, u => ∃ t, u = Value.float b t
  | .ref a, u => u = Value.ref a
  | .ty n, u => u = Value.type n

noncomputable abbrev Vals : List V → List Value → Prop := Paired RelV
theorem Vals.length {xs : List V} {us : List Value} (r : Vals xs us) : xs.length = us.length := Paired.length r
theorem Vals.get : ∀ {xs : List V} {us : List Value} {i : Nat} {x : V}, Vals xs us → xs[i]? = some x → ∃ u, us[i]? = some u ∧ RelV x u
  | _, _, _, _, .nil, e => by simp at e
  | _, _, 0, _, .cons r _, e => by simp at e; subst e; exact ⟨_, rfl, r⟩
  | _, _, i + 1, x, .cons _ t, e => by
    obtain ⟨u, h1, h2⟩ := Vals.get (i := i) (x := x) t (by simpa using e)
    exact ⟨u, by simpa using h1, h2⟩
theorem Vals.set {x : V} {u : Value} (r : RelV x u) : ∀ {xs : List V} {us : List Value} (i : Nat), Vals xs us → Vals (xs.set i x) (us.set i u)
  | _, _, _, .nil => .nil
  | _, _, 0, .cons _ t => .cons r t
  | _, _, i + 1, .cons q t => .cons q (Vals.set r i t)
theorem Vals.append : ∀ {xs ys : List V} {us ws : List Value}, Vals xs us → Vals ys ws → Vals (xs ++ ys) (us ++ ws)
  | _, _, _, _, .nil, s => s
  | _, _, _, _, .cons r t, s => .cons r (Vals.append t s)
theorem Vals.take : ∀ {xs : List V} {us : List Value} (n : Nat), Vals xs us → Vals (xs.take n) (us.take n)
  | _, _, 0, _ => .nil
  | _, _, _ + 1, .nil => .nil
  | _, _, n + 1, .cons r t => .cons r (Vals.take n t)
theorem Vals.drop : ∀ {xs : List V} {us : List Value} (n : Nat), Vals xs us → Vals (xs.drop n) (us.drop n)
  | _, _, 0, r => r
  | _, _, _ + 1, .nil => .nil
  | _, _, n + 1, .cons _ t => Vals.drop n t

noncomputable def RelO : Option V → Option Value → Prop
  | some v, some u => RelV v u
  | none, none => True
  | _, _ => False
noncomputable def KV {κ : Type} : List (κ × V) → List (κ × Value) → Prop := Paired fun (p : κ × V) (q : κ × Value) => p.1 = q.1 ∧ RelV p.2 q.2

/-- a key of a dict (00_mix): an int or a text -/
noncomputable def kV : Key → V
  | .inl i => .int i
  | .inr x => .str x

/-- what stands at a tracked address -/
inductive HO where
  /-- a list -/
  | lst (xs : List V)
  /-- a tuple (never changes) -/
  | tup (xs : List V)
  /-- a dict whose keys are ints and texts; one whose keys are tuples of ints and texts (the empty one is both) -/
  | dK (kvs : List (Key × V)) | dT (kvs : List (List Key × V))
  /-- a set of ints: its members, its size -/
  | set (S : Int → Bool) (n : Nat)
  /-- an instance of the class at C, its dict at dx, its attributes -/
  | ins (C dx : Addr) (fs : List (Str × V))
  /-- the dict of the instance at x -/
  | own (x : Addr)
  /-- the dict of an exception -/
  | xd (fs : List (Str × V))
  /-- a bound method, f of x -/
  | met (f x : Addr)
  /-- a range object lo, lo + 1, .. below hi -/
  | rng (lo hi : Int)
  /-- a thing that is known to the object (the script; a dict while a loop walks it): read, never written while it is so -/
  | frz (o : Obj) (u : HO)
  /-- a code object's table -/
  | tbl (ps : Array Value)
  /-- any other thing, by what is true of its one object (a def of one's own: SetO a S n := HO.ext fun h => ..) -/
  | ext (φ : Heap → Prop)

noncomputable abbrev Hp := Addr → Option HO
noncomputable def upd (H : Hp) (a : Addr) (o : HO) : Hp := fun b => if b = a then some o else H b
theorem upd_same {H : Hp} {a : Addr} {o : HO} : upd H a o a = some o := by unfold upd; rw [if_pos rfl]
theorem upd_ne {H : Hp} {a b : Addr} {o : HO} (h : b ≠ a) : upd H a o b = H b := by unfold upd; rw [if_neg h]
theorem ne_of_none {H : Hp} {a b : Addr} {o : HO} (h : H a = some o) (h' : H b = none) : a ≠ b := by
  intro e; subst e; rw [h] at h'; cases h'

section
variable (P : Program) (w : World)
noncomputable def ObjOk (H : Hp) (h : Heap) (a : Addr) : HO → Prop
  | .lst xs => xs.length ≤ sizeLine ∧ ∃ (its : List Value) (n : Nat), Vals xs its ∧ h.get? a = some { cls := .type "list", data := .seq its.toArray n }
  | .tup xs => xs.length ≤ sizeLine ∧ ∃ its : List Value, Vals xs its ∧ IsTup h a its.toArray
  | .dK kvs => kvs.length ≤ sizeLine ∧ (a == sysModules) = false ∧ ∃ vs, KV kvs vs ∧ h.DictOf (mixKind P w) a vs
  | .dT kvs => kvs.length ≤ sizeLine ∧ (a == sysModules) = false ∧ ∃ xs : List (List Key × Addr × Value),
      Paired (fun (p : List Key × V) (q : List Key × Addr × Value) => p.1 = q.1 ∧ H q.2.1 = some (.tup (p.1.map kV)) ∧ RelV p.2 q.2.2) kvs xs ∧
      ∃ o es ep, h.get? a = some o ∧ o.ExactDict ∧ o.data = .dict es ep ∧ es.toList = xs.map (entryOfKey (tupleKind (mixKind P w))) ∧ (xs.map (·.1)).Nodup
  | .set S n => h.SetOf (intKind P w) a S n
  | .ins C dx fs => H dx = some (.own a) ∧ fs.length ≤ 1000 ∧ dx ≠ a ∧ h.get? a = some (PySem.W.instObj C dx) ∧
      ∃ mA, h.Ns1 dx mA ∧ (∀ f, RelO (fs.lookup f) (mA f)) ∧ PySem.Within mA (fs.map (·.1))
  | .own _ => ∃ o, h.get? a = some o
  | .xd fs => ∃ mA, h.Ns1 a mA ∧ ∀ f, RelO (fs.lookup f) (mA f)
  | .rng lo hi => ∃ t u v, h.get? a = some { cls := .type "range", data := .fields #[.int lo t, .int hi u, .int 1 v] }
  | .frz o u => h.get? a = some o ∧ ObjOk H h a u
  | .tbl ps => h.get? a = some { cls := .none, data := .fields ps }
  | .met f x => h.get? a = some (PySem.W.methodObj (.ref f) (.ref x))
  | .ext φ => φ h ∧ (∃ o, h.get? a = some o) ∧ ∀ h1 h2 : Heap, φ h1 → (∀ o, h1.get? a = some o → h2.get? a = some o) → φ h2
/-- the abstract heap is held -/
noncomputable def HOk (H : Hp) (h : Heap) : Prop := ∀ a o, H a = some o → ObjOk P w H h a o
end

section
variable {P : Program} {w : World} {H H' : Hp} {h h' : Heap} {a : Addr} {o : HO}
theorem ObjOk.lt (x : ObjOk P w H h a o) : a < h.objs.size := by
  cases o with
  | lst xs => obtain ⟨_, _, _, _, e⟩ := x; exact Heap.lt_size e
  | tup xs => obtain ⟨_, _, _, p⟩ := x; exact p.lt
  | dK kvs => obtain ⟨_, _, _, _, o, _, _, e, _⟩ := x; exact Heap.lt_size e
  | dT kvs => obtain ⟨_, _, _, _, o, _, _, e, _⟩ := x; exact Heap.lt_size e
  | set S n => obtain ⟨o, _, _, _, e, _⟩ := x; exact Heap.lt_size e
  | ins C dx fs => obtain ⟨_, _, _, e, _⟩ := x; exact Heap.lt_size e
  | own y => obtain ⟨_, e⟩ := x; exact Heap.lt_size e
  | xd fs => obtain ⟨_, ⟨_, _, _, e, _⟩, _⟩ := x; exact Heap.lt_size e
  | rng lo hi => obtain ⟨_, _, _, e⟩ := x; exact Heap.lt_size e
  | frz ob u => obtain ⟨e, _⟩ := x; exact Heap.lt_size e
  | tbl ps => exact Heap.lt_size (show h.get? a = some _ from x)
  | met f y => exact Heap.lt_size (show h.get? a = some _ from x)
  | ext φ => obtain ⟨_, ⟨_, e⟩, _⟩ := x; exact Heap.lt_size e
theorem Paired.mapP {α β : Type} {F G : α → β → Prop} : ∀ {l₁ : List α} {l₂ : List β}, Paired F l₁ l₂ → (∀ a b, F a b → G a b) → Paired G l₁ l₂
  | _, _, .nil, _ => .nil
  | _, _, .cons r t, f => .cons (f _ _ r) (Paired.mapP t f)
/-- what an object's description leans on: its own object, its own dict, the tuples -/
theorem ObjOk.stay (x : ObjOk P w H h a o) (k : ∀ b u, (b = a ∨ H b = some (.own a)) → h.get? b = some u → h'.get? b = some u)
    (ho : ∀ b, H b = some (.own a) → H' b = some (.own a)) (ht : ∀ b xs, H b = some (.tup xs) → H' b = some (.tup xs)) : ObjOk P w H' h' a o := by
  induction o with
  | lst xs => obtain ⟨z, its, n, r, e⟩ := x; exact ⟨z, its, n, r, k _ _ (.inl rfl) e⟩
  | tup xs => obtain ⟨z, its, r, ob, e, c⟩ := x; exact ⟨z, its, r, ob, k _ _ (.inl rfl) e, c⟩
  | dK kvs => obtain ⟨z, y, vs, r, ob, es, ep, e, c⟩ := x; exact ⟨z, y, vs, r, ob, es, ep, k _ _ (.inl rfl) e, c⟩
  | dT kvs =>
    obtain ⟨z, y, xs, r, ob, es, ep, e, c⟩ := x
    exact ⟨z, y, xs, Paired.mapP r fun p q z => ⟨z.1, ht _ _ z.2.1, z.2.2⟩, ob, es, ep, k _ _ (.inl rfl) e, c⟩
  | set S n => obtain ⟨ob, es, ep, t, e, c⟩ := x; exact ⟨ob, es, ep, t, k _ _ (.inl rfl) e, c⟩
  | ins C dx fs =>
    obtain ⟨d, z, ne, e, mA, ⟨od, es, ep, e2, c⟩, r⟩ := x
    exact ⟨ho _ d, z, ne, k _ _ (.inl rfl) e, mA, ⟨od, es, ep, k _ _ (.inr d) e2, c⟩, r⟩
  | own y => obtain ⟨ob, e⟩ := x; exact ⟨ob, k _ _ (.inl rfl) e⟩
  | xd fs => obtain ⟨mA, ⟨od, es, ep, e, c⟩, r⟩ := x; exact ⟨mA, ⟨od, es, ep, k _ _ (.inl rfl) e, c⟩, r⟩
  | rng lo hi => obtain ⟨t, u, v, e⟩ := x; exact ⟨t, u, v, k _ _ (.inl rfl) e⟩
  | frz ob u ih => obtain ⟨e, q⟩ := x; exact ⟨k _ _ (.inl rfl) e, ih q⟩
  | tbl ps =>
    have e : h.get? a = some { cls := .none, data := .fields ps } := x
    show h'.get? a = some { cls := .none, data := .fields ps }
    exact k a _ (.inl rfl) e
  | met f y =>
    have e : h.get? a = some (PySem.W.methodObj (.ref f) (.ref y)) := x
    show h'.get? a = some (PySem.W.methodObj (.ref f) (.ref y))
    exact k a _ (.inl rfl) e
  | ext φ => obtain ⟨p, ⟨o, e⟩, st⟩ := x; exact ⟨st _ _ p fun o q => k _ _ (.inl rfl) q, ⟨o, k _ _ (.inl rfl) e⟩, st⟩
theorem HOk.lt (x : HOk P w H h) (e : H a = some o) : a < h.objs.size := (x a o e).lt
theorem HOk.fresh (x : HOk P w H h) (e : h.objs.size ≤ a) : H a = none := by
  cases q : H a with
  | none => rfl
  | some u => exact absurd (Nat.lt_of_lt_of_le (x.lt q) e) (Nat.lt_irrefl _)
/-- every object of the heap is kept -/
theorem HOk.kept (x : HOk P w H h) (k : ∀ b u, h.get? b = some u → h'.get? b = some u) : HOk P w H h' := fun a o e =>
  (x a o e).stay (fun b u _ q => k b u q) (fun _ q => q) fun _ _ q => q
/-- a new object is laid and tracked -/
theorem HOk.laid (x : HOk P w H h) (k : ∀ b u, h.get? b = some u → h'.get? b = some u) (hp : h.objs.size ≤ a) (new : ObjOk P w (upd H a o) h' a o) : HOk P w (upd H a o) h' := fun b u e => by
  have hn := x.fresh hp
  by_cases hb : b = a
  · subst hb; rw [upd_same] at e; cases e; exact new
  · rw [upd_ne hb] at e
    exact (x b u e).stay (fun c v _ q => k c v q) (fun c q => by rw [upd_ne (ne_of_none q hn)]; exact q) fun c xs q => by rw [upd_ne (ne_of_none q hn)]; exact q
end

/-- what may be read as u: it is u, or a known u -/
noncomputable def Rd (H : Hp) (a : Addr) (u : HO) : Prop := H a = some u ∨ ∃ o, H a = some (.frz o u)
theorem Rd.of {H : Hp} {a : Addr} {u : HO} (h : H a = some u) : Rd H a u := .inl h
theorem Rd.ok {P : Program} {w : World} {H : Hp} {h : Heap} {a : Addr} {u : HO} (r : Rd H a u) (x : HOk P w H h) : ObjOk P w H h a u := by
  rcases r with r | ⟨o, r⟩
  · exact x a u r
  · obtain ⟨_, q⟩ := x a _ r
    exact q
/-- what may be written -/
noncomputable def Mut : Option HO → Prop
  | some (.lst _) => True
  | some (.dK _) => True
  | some (.dT _) => True
  | some (.set _ _) => True
  | some (.ins _ _ _) => True
  | some (.ext _) => True
  | _ => False
section
variable {P : Program} {w : World} {H : Hp} {h h' : Heap} {x e : Addr} {o' : HO}
/-- the object at e is changed: x itself, or the dict of the instance x -/
theorem HOk.write (ok : HOk P w H h) (mu : Mut (H x)) (he : e = x ∨ H e = some (.own x)) (k : ∀ b u, b ≠ e → h.get? b = some u → h'.get? b = some u) (heo : ∃ u, h'.get? e = some u)
    (new : ObjOk P w (upd H x o') h' x o') : HOk P w (upd H x o') h' := fun b u q => by
  have nown : ∀ c y, H c = some (.own y) → c ≠ x := fun c y r z => by subst z; rw [r] at mu; exact mu
  have ntup : ∀ c xs, H c = some (.tup xs) → c ≠ x := fun c xs r z => by subst z; rw [r] at mu; exact mu
  by_cases hb : b = x
  · subst hb; rw [upd_same] at q; cases q; exact new
  · rw [upd_ne hb] at q
    by_cases hbe : b = e
    · have q' : H b = some (.own x) := by
        rcases he with z | z
        · exact absurd (hbe.trans z) hb
        · rw [hbe]; exact z
      rw [q] at q'; cases q'
      obtain ⟨v, hv⟩ := heo
      exact ⟨v, by rw [hbe]; exact hv⟩
    · refine (ok b u q).stay (fun c v hc r => k c v ?_ r) (fun c r => by rw [upd_ne (nown c b r)]; exact r) fun c xs r => by rw [upd_ne (ntup c xs r)]; exact r
      rcases hc with rfl | hc
      · exact hbe
      · rintro rfl
        rcases he with z | z
        · exact nown c b hc z
        · rw [hc] at z; cases z; exact hb rfl
end

/-! ### kept unless tracked; of the frames at fs (the callers') the slots may change (an exception that passes writes there); of the records at ex (iterators) nothing is said -/
structure Un (fs ex : List Addr) (H H' : Hp) (h h' : Heap) : Prop where
  keep : ∀ b o, h.get? b = some o → H b = none → b ∉ fs → b ∉ ex → h'.get? b = some o
  slot : ∀ b o, h.get? b = some o → H b = none → b ∈ fs → b ∉ ex → ∃ sl, h'.get? b = some { o with slots := sl }
  free : ∀ b o, h.get? b = some o → H b = none → b ∉ ex → H' b = none
  there : ∀ b o, h.get? b = some o → b ∉ ex → ∃ o', h'.get? b = some o'
  tups : ∀ b xs, H b = some (.tup xs) → H' b = some (.tup xs)
  frzs : ∀ b o u, H b = some (.frz o u) → H' b = some (.frz o u)
  tbls : ∀ b ps, H b = some (.tbl ps) → ∃ more, H' b = some (.tbl (ps ++ more))
section
variable {fs fs' ex ex' : List Addr} {H H1 H2 : Hp} {h h1 h2 h' : Heap} {a x e : Addr} {o : HO}
theorem Un.any (u : Un fs ex H H1 h h1) {b : Addr} {ob : Obj} (q : h.get? b = some ob) (n : H b = none) (hx : b ∉ ex) : ∃ sl, h1.get? b = some { ob with slots := sl } := by
  by_cases hb : b ∈ fs
  · exact u.slot b ob q n hb hx
  · exact ⟨ob.slots, u.keep b ob q n hb hx⟩
theorem Un.trans (a : Un fs ex H H1 h h1) (b : Un fs ex H1 H2 h1 h2) : Un fs ex H H2 h h2 where
  keep := fun c ob q n hc hx => b.keep c ob (a.keep c ob q n hc hx) (a.free c ob q n hx) hc hx
  slot := fun c ob q n hc hx => by
    obtain ⟨sl, e1⟩ := a.slot c ob q n hc hx
    obtain ⟨sl', e2⟩ := b.slot c _ e1 (a.free c ob q n hx) hc hx
    exact ⟨sl', e2⟩
  free := fun c ob q n hx => by
    obtain ⟨o', e1⟩ := a.there c ob q hx
    exact b.free c o' e1 (a.free c ob q n hx) hx
  there := fun c ob q hx => by
    obtain ⟨o', e1⟩ := a.there c ob q hx
    exact b.there c o' e1 hx
  tups := fun c xs q => b.tups c xs (a.tups c xs q)
  frzs := fun c ob xs q => b.frzs c ob xs (a.frzs c ob xs q)
  tbls := fun c ps q => by
    obtain ⟨m1, e1⟩ := a.tbls c ps q
    obtain ⟨m2, e2⟩ := b.tbls c _ e1
    exact ⟨m1 ++ m2, by rw [e2, Array.append_assoc]⟩
theorem Un.kept (k : ∀ b u, h.get? b = some u → h'.get? b = some u) : Un fs ex H H h h' :=
  ⟨fun b ob q _ _ _ => k b ob q, fun b ob q _ _ _ => ⟨ob.slots, k b ob q⟩, fun _ _ _ n _ => n, fun b ob q _ => ⟨ob, k b ob q⟩, fun _ _ q => q, fun _ _ _ q => q, fun _ ps q => ⟨#[], by rw [q]; simp⟩⟩
theorem Un.refl : Un fs ex H H h h := Un.kept fun _ _ q => q
theorem Un.laid (k : ∀ b u, h.get? b = some u → h'.get? b = some u) (hp : h.objs.size ≤ a) (hn : H a = none) : Un fs ex H (upd H a o) h h' where
  keep := fun b u q _ _ _ => k b u q
  slot := fun b u q _ _ _ => ⟨u.slots, k b u q⟩
  free := fun b u q n _ => by rw [upd_ne (Nat.ne_of_lt (Nat.lt_of_lt_of_le (Heap.lt_size q) hp))]; exact n
  there := fun b u q _ => ⟨u, k b u q⟩
  tups := fun b xs q => by rw [upd_ne (ne_of_none q hn)]; exact q
  frzs := fun b u xs q => by rw [upd_ne (ne_of_none q hn)]; exact q
  tbls := fun b ps q => ⟨#[], by rw [upd_ne (ne_of_none q hn), q]; simp⟩
theorem Un.write (mu : Mut (H x)) (he : e = x ∨ H e = some (.own x)) (k : ∀ b u, b ≠ e → h.get? b = some u → h'.get? b = some u) (heo : ∃ u, h'.get? e = some u) : Un fs ex H (upd H x o) h h' := by
  have hx : ∀ b, H b = none → b ≠ x := fun b n z => by subst z; rw [n] at mu; exact mu
  have hb : ∀ b, H b = none → b ≠ e := fun b n z => by
    subst z
    rcases he with r | r
    · exact hx b n r
    · rw [n] at r; cases r
  have hm : ∀ b u, H b = some u → ¬ Mut (some u) → b ≠ x := fun b u q nm z => by subst z; rw [q] at mu; exact nm mu
  refine ⟨fun b u q n _ _ => k b u (hb b n) q, fun b u q n _ _ => ⟨u.slots, k b u (hb b n) q⟩, fun b u q n _ => by rw [upd_ne (hx b n)]; exact n, fun b u q _ => ?_,
    fun b xs q => by rw [upd_ne (hm b _ q fun z => z)]; exact q, fun b u xs q => by rw [upd_ne (hm b _ q fun z => z)]; exact q, fun b ps q => ⟨#[], by rw [upd_ne (hm b _ q fun z => z), q]; simp⟩⟩
  by_cases hbe : b = e
  · subst hbe; exact heo
  · exact ⟨u, k b u hbe q⟩
end

/-! ### the heap without what is tracked -/
noncomputable def trk (h : Heap) (H : Hp) : List Addr := (List.range h.objs.size).filter fun a => (H a).isSome
noncomputable def hidT (h : Heap) (H : Hp) : Heap := PySem.W.hideAll h (trk h H)
theorem hidT_size (h : Heap) (H : Hp) : (hidT h H).objs.size = h.objs.size := PySem.W.hideAll_size _ _
theorem hidT_get {h : Heap} {H : Hp} {b : Addr} {o : Obj} (e : h.get? b = some o) (n : H b = none) : (hidT h H).get? b = some o :=
  PySem.W.hideAll_get _ e fun hm => by
    have q : (H b).isSome = true := (List.mem_filter.mp hm).2
    rw [n] at q; simp at q
theorem of_hidT {h : Heap} {H : Hp} {b : Addr} {o : Obj} (e : (hidT h H).get? b = some o) : h.get? b = some o ∧ H b = none := by
  have e' : h.get? b = some o := PySem.W.of_hideAll (trk h H) e
  refine ⟨e', ?_⟩
  cases q : H b with
  | none => rfl
  | some x =>
    have hm : b ∈ trk h H := List.mem_filter.mpr ⟨List.mem_range.mpr (Heap.lt_size e'), by simp [q]⟩
    have z : (hidT h H).get? b = none := PySem.W.hideAll_none (trk h H) hm
    rw [z] at e; cases e

/-! ### OpenK's ledger, filled with every new object but one -/
noncomputable def allNews (g h : Heap) (L : Addr) : List (Addr × Obj) := (List.range h.objs.size).filterMap fun a => if a = L ∨ (g.get? a).isSome = true then none else (h.get? a).map fun o => (a, o)
noncomputable def rest (g h : Heap) (L d : Addr) : List (Addr × Obj) := (allNews g h L).filter fun p => decide (p.1 ≠ d)
end L2

namespace L2
open PySem PySem.Spec PyProof.Rows

/-- the module's facts, over the base: the heap at the law's entry without what is tracked there -/
structure Mod (K : PySem.W.Frag) (mg : Str → Option Value) (base : Heap) : Prop where
  kin : K.In base
  glob : base.Ns mainGlobals mg
  blt : ∃ mb, base.Ns builtinsNs mb ∧ ∀ x : Str, x ≠ "__name__" → mb x = bootBuiltins x
  nolimit : base.NoLimit

/-- the context: a def's body (or a comprehension's block) running. base: fixed through the whole law; s₀, H₀: the entry; outer: the frames whose slots others may change (a def's callers); stack: all frames that run;
   ex: iterators that were made ahead of the entry and are walked here (a comprehension's); fn: the names whose cells were made at the entry (a def: all; a comprehension's block: its own); calm: not within an except suite; pn: pins that every state bears; xe: what is wanted of an exception that leaves the code -/
structure Cx where
  prog : Program
  w : World
  K : PySem.W.Frag
  mg : Str → Option Value
  base : Heap
  A : Around
  N : List Str
  s₀ : Shared
  H₀ : Hp
  env : Env
  outer : List Env
  stack : List Env
  ex : List Addr
  fn : Str → Bool
  calm : Bool
  pn : List (Addr × Obj)
  xe : Value → Shared → Prop
/-- the callers' frames -/
noncomputable def frs (l : List Env) : List Addr := l.filterMap (·.frame)
noncomputable abbrev Cx.fs (X : Cx) : List Addr := frs X.outer

noncomputable def Vis (sc : Scope) (x : Str) : Prop := sc.names.lookup x = some .local ∨ sc.names.lookup x = some .cell ∨ sc.names.lookup x = some .free
noncomputable def Loc (sc : Scope) (x : Str) : Prop := sc.names.lookup x = some .local ∨ sc.names.lookup x = some .cell
noncomputable def Look (env : Env) (h : Heap) (m : Str → Option Value) (x : Str) (u : Value) : Prop :=
  (env.kindOf x = some .local ∧ m x = some u) ∨ ((env.kindOf x = some .cell ∨ env.kindOf x = some .free) ∧ ∃ c, env.cells.lookup x = some c ∧ h.IsCell c (some u))

structure Cx.Ok (X : Cx) : Prop where
  mod : Mod X.K X.mg X.base
  kind : X.env.scope.kind = .function
  glob : X.env.globals = mainGlobals
  blt : X.env.builtins = builtinsNs
  above : X.s₀.heap.objs.size ≤ X.env.locals
  inj : ∀ x y c, X.env.cells.lookup x = some c → X.env.cells.lookup y = some c → x = y
  has : ∀ x, (X.env.kindOf x = some .cell ∨ X.env.kindOf x = some .free) → ∃ c, X.env.cells.lookup x = some c
  cab : ∀ x c, X.fn x = true → X.env.cells.lookup x = some c → X.s₀.heap.objs.size ≤ c
  hd : X.calm = true → X.A.handled = none
  frames : X.A.frames = some X.stack
  stk : X.stack = X.outer ∨ (X.stack = X.env :: X.outer ∧ X.env.frame = some X.env.locals)
  exf : ∀ b ∈ X.ex, b ≠ X.env.locals ∧ ∀ x c, X.env.cells.lookup x = some c → c ≠ b
  bs : ∀ b o, X.base.get? b = some o → X.s₀.heap.get? b = some o ∧ X.H₀ b = none
  bsz : X.base.objs.size ≤ X.s₀.heap.objs.size
  noex : ∀ b o, X.base.get? b = some o → b ∉ X.ex
  exfs : ∀ b ∈ X.ex, b ∉ X.fs
  funs : X.s₀.heap.FunFrames X.base X.outer
  frf : ∀ b ∈ X.fs, X.H₀ b = none

structure Inv (X : Cx) (pins : List (Addr × Obj)) (σ : List (Option V)) (H : Hp) (s : Shared) : Prop where
  ok : X.Ok
  os : s.os = X.s₀.os
  bare : AllBare s.gens
  base : Un X.fs X.ex X.H₀ H X.s₀.heap s.heap
  loc : ∃ m, s.heap.Ns X.env.locals m ∧ ∀ (i : Nat) (x : Str) (v : V), X.N[i]? = some x → σ[i]? = some (some v) → Vis X.env.scope x → ∃ u, RelV v u ∧ Look X.env s.heap m x u
  cell : ∀ x c, X.env.cells.lookup x = some c → ∃ v, s.heap.IsCell c v
  free : H X.env.locals = none
  freeC : ∀ x c, X.env.cells.lookup x = some c → H c = none
  pin : ∀ p ∈ X.pn ++ pins, s.heap.get? p.1 = some p.2 ∧ H p.1 = none ∧ p.1 ≠ X.env.locals ∧ p.1 ∉ X.fs ∧ ∀ v, p.2.data ≠ .cell v
  hok : HOk X.prog X.w H s.heap
  len : σ.length = X.N.length

section
variable {X : Cx} {pins : List (Addr × Obj)} {σ : List (Option V)} {H H' : Hp} {s : Shared} {h' : Heap}

theorem Cx.Ok.nofr (ok : X.Ok) {b : Addr} {o : Obj} (e : X.base.get? b = some o) : b ∉ X.fs := fun hb => by
  have := (ok.funs.mem hb).1
  rw [e] at this; cases this
theorem Inv.bs (I : Inv X pins σ H s) : ∀ b o, X.base.get? b = some o → s.heap.get? b = some o ∧ H b = none := fun b o e =>
  ⟨I.base.keep b o (I.ok.bs b o e).1 (I.ok.bs b o e).2 (I.ok.nofr e) (I.ok.noex b o e), I.base.free b o (I.ok.bs b o e).1 (I.ok.bs b o e).2 (I.ok.noex b o e)⟩
theorem Inv.bk (I : Inv X pins σ H s) : ∀ b o, X.base.get? b = some o → s.heap.get? b = some o := fun b o e => (I.bs b o e).1
theorem Inv.mod (I : Inv X pins σ H s) : Mod X.K X.mg X.base := I.ok.mod
theorem Inv.kIn (I : Inv X pins σ H s) : X.K.In s.heap := I.ok.mod.kin.keeps I.bk
theorem Inv.nolimit (I : Inv X pins σ H s) : s.heap.NoLimit := I.ok.mod.nolimit.keeps I.bk
theorem Inv.lt (I : Inv X pins σ H s) : X.env.locals < s.heap.objs.size := let ⟨_, hn, _⟩ := I.loc; hn.lt
theorem Inv.sz (I : Inv X pins σ H s) : X.s₀.heap.objs.size ≤ s.heap.objs.size := Nat.le_trans I.ok.above (Nat.le_of_lt I.lt)
theorem Inv.nofs (I : Inv X pins σ H s) {a : Addr} (h : s.heap.objs.size ≤ a) : a ∉ X.fs := fun hb => by
  obtain ⟨_, o, ho, _⟩ := I.ok.funs.mem hb
  exact absurd (Nat.lt_of_lt_of_le (Heap.lt_size ho) (Nat.le_trans I.sz h)) (Nat.lt_irrefl _)
theorem Inv.cne (I : Inv X pins σ H s) : ∀ x c, X.env.cells.lookup x = some c → c ≠ X.env.locals := fun x c e z => by
  obtain ⟨v, o, ho, hd⟩ := I.cell x c e
  obtain ⟨m, ⟨o', es, ep, ho', hd', _⟩, _⟩ := I.loc
  rw [z, ho'] at ho; cases ho; rw [hd'] at hd; cases hd
theorem Inv.funs (I : Inv X pins σ H s) : s.heap.FunFrames X.base X.outer := by
  have all : ∀ (l : List Env), (∀ b ∈ frs l, b ∈ X.fs) → X.s₀.heap.FunFrames X.base l → s.heap.FunFrames X.base l := by
    intro l
    induction l with
    | nil => intro _ _; trivial
    | cons env r ih =>
      intro hs hl
      obtain ⟨hk, ⟨L, o, hf, hn, ho, hd⟩, hr⟩ := hl
      have hL : L ∈ X.fs := hs L (by unfold frs; rw [List.filterMap_cons, hf]; exact List.mem_cons_self)
      obtain ⟨sl, e⟩ := I.base.slot L o ho (I.ok.frf L hL) hL fun z => I.ok.exfs L z hL
      exact ⟨hk, ⟨L, _, hf, hn, e, hd⟩, ih (fun b hb => hs b (by unfold frs; rw [List.filterMap_cons, hf]; exact List.mem_cons_of_mem _ hb)) hr⟩
  exact all X.outer (fun _ hb => hb) I.ok.funs

/-- the frames that run, for a call -/
theorem Inv.stack (I : Inv X pins σ H s) : s.heap.FunFrames X.base X.stack := by
  rcases I.ok.stk with e | ⟨e, hf⟩
  · rw [e]; exact I.funs
  · rw [e]
    obtain ⟨m, hn, _⟩ := I.loc
    refine .cons (by rw [I.ok.kind]; decide) hf hn ?_ I.funs
    exact Heap.get?_none_of_le (Nat.le_trans I.ok.bsz I.ok.above)
theorem Inv.stkSub (I : Inv X pins σ H s) : ∀ b ∈ frs X.stack, b ∈ X.env.locals :: X.fs := fun b hb => by
  rcases I.ok.stk with e | ⟨e, hf⟩
  · rw [e] at hb; exact List.mem_cons_of_mem _ hb
  · rw [e] at hb
    unfold frs at hb
    rw [List.filterMap_cons, hf] at hb
    exact hb
theorem Inv.stkFree (I : Inv X pins σ H s) : ∀ b ∈ frs X.stack, H b = none := fun b hb => by
  rcases List.mem_cons.mp (I.stkSub b hb) with e | hb
  · rw [e]; exact I.free
  · obtain ⟨_, o, ho, _⟩ := I.ok.funs.mem hb
    exact I.base.free b o ho (I.ok.frf b hb) fun z => I.ok.exfs b z hb

/-- THE STEP: the untracked objects but the frame and the records at ch are kept (the callers' frames up to slots), the frame's map is kept, the new abstract heap is held -/
theorem Inv.step {g' : Array GenState} {t' : Nat} {d' : Drawn} {ch : List Addr} (I : Inv X pins σ H s)
    (hch : ∀ b ∈ ch, (b ∈ X.ex ∨ X.s₀.heap.objs.size ≤ b) ∧ b ≠ X.env.locals ∧ (∀ x c, X.env.cells.lookup x = some c → c ≠ b) ∧ ∀ p ∈ X.pn ++ pins, p.1 ≠ b)
    (keep : ∀ b o, b ≠ X.env.locals → b ∉ X.fs → b ∉ ch → s.heap.get? b = some o → H b = none → h'.get? b = some o)
    (slot : ∀ b o, b ≠ X.env.locals → b ∈ X.fs → b ∉ ch → s.heap.get? b = some o → H b = none → ∃ sl, h'.get? b = some { o with slots := sl }) (free : ∀ b o, b ∉ ch → s.heap.get? b = some o → H b = none → H' b = none)
    (there : ∀ b o, b ∉ ch → s.heap.get? b = some o → ∃ o', h'.get? b = some o')
    (tups : ∀ b xs, H b = some (.tup xs) → H' b = some (.tup xs)) (frzs : ∀ b o u, H b = some (.frz o u) → H' b = some (.frz o u)) (tbls : ∀ b ps, H b = some (.tbl ps) → ∃ more, H' b = some (.tbl (ps ++ more)))
    (ns : ∀ m, s.heap.Ns X.env.locals m → h'.Ns X.env.locals m) (hok : HOk X.prog X.w H' h') (hg : AllBare g') :
    Inv X pins σ H' { s with heap := h', gens := g', drawn := d', toks := t' } := by
  have neL : ∀ b o, X.s₀.heap.get? b = some o → b ≠ X.env.locals := fun b o e => Nat.ne_of_lt (Nat.lt_of_lt_of_le (Heap.lt_size e) I.ok.above)
  have neC : ∀ b o, X.s₀.heap.get? b = some o → b ∉ X.ex → b ∉ ch := fun b o e hx hb => by
    rcases (hch b hb).1 with z | z
    · exact hx z
    · exact absurd (Nat.lt_of_lt_of_le (Heap.lt_size e) z) (Nat.lt_irrefl _)
  have cellK : ∀ x c, X.env.cells.lookup x = some c → ∀ v, s.heap.IsCell c v → h'.IsCell c v := fun x c e v ⟨o, ho, hd⟩ => by
    have nch : c ∉ ch := fun z => (hch c z).2.2.1 x c e rfl
    by_cases hc : c ∈ X.fs
    · obtain ⟨sl, q⟩ := slot c o (I.cne x c e) hc nch ho (I.freeC x c e)
      exact ⟨_, q, hd⟩
    · exact ⟨o, keep c o (I.cne x c e) hc nch ho (I.freeC x c e), hd⟩
  refine ⟨I.ok, I.os, hg, ⟨fun b o e n hb hx => ?_, fun b o e n hb hx => ?_, fun b o e n hx => ?_, fun b o e hx => ?_, fun b xs e => tups b xs (I.base.tups b xs e), fun b o xs e => frzs b o xs (I.base.frzs b o xs e), fun b ps e => ?_⟩, ?_, fun x c e => ?_, ?_, fun x c e => ?_, fun p hp => ?_, hok, I.len⟩
  · exact keep b o (neL b o e) hb (neC b o e hx) (I.base.keep b o e n hb hx) (I.base.free b o e n hx)
  · obtain ⟨sl, e1⟩ := I.base.slot b o e n hb hx
    obtain ⟨sl', e2⟩ := slot b _ (neL b o e) hb (neC b o e hx) e1 (I.base.free b o e n hx)
    exact ⟨sl', e2⟩
  · obtain ⟨o', e1⟩ := I.base.there b o e hx
    exact free b o' (neC b o e hx) e1 (I.base.free b o e n hx)
  · obtain ⟨o', e1⟩ := I.base.there b o e hx
    exact there b o' (neC b o e hx) e1
  · obtain ⟨m1, e1⟩ := I.base.tbls b ps e
    obtain ⟨m2, e2⟩ := tbls b _ e1
    exact ⟨m1 ++ m2, by rw [e2, Array.append_assoc]⟩
  · obtain ⟨m, hn, hl⟩ := I.loc
    refine ⟨m, ns m hn, fun i x v e1 e2 e3 => ?_⟩
    obtain ⟨u, r, l⟩ := hl i x v e1 e2 e3
    refine ⟨u, r, ?_⟩
    rcases l with l | ⟨k, c, e, z⟩
    · exact .inl l
    · exact .inr ⟨k, c, e, cellK x c e _ z⟩
  · obtain ⟨v, z⟩ := I.cell x c e
    exact ⟨v, cellK x c e v z⟩
  · obtain ⟨m, ⟨o, _, _, ho, _⟩, _⟩ := I.loc
    exact free _ o (fun z => (hch _ z).2.1 rfl) ho I.free
  · obtain ⟨v, o, ho, hd⟩ := I.cell x c e
    exact free c o (fun z => (hch c z).2.2.1 x c e rfl) ho (I.freeC x c e)
  · obtain ⟨e, n, ne, nf, d⟩ := I.pin p hp
    have nch : p.1 ∉ ch := fun z => (hch p.1 z).2.2.2 p hp rfl
    exact ⟨keep p.1 p.2 ne nf nch e n, free p.1 p.2 nch e n, ne, nf, d⟩
/-- .. where the frame's own object is kept too -/
theorem Inv.un {t' : Nat} (I : Inv X pins σ H s) (u : Un X.fs [] H H' s.heap h') (hok : HOk X.prog X.w H' h') : Inv X pins σ H' { s with heap := h', toks := t' } := by
  obtain ⟨m, ⟨o, es, ep, ho, r⟩, _⟩ := id I.loc
  obtain ⟨sl, hL⟩ := u.any ho I.free (by simp)
  exact I.step (g' := s.gens) (d' := s.drawn) (ch := []) (fun _ z => nomatch z) (fun b o _ hb _ e n => u.keep b o e n hb (by simp)) (fun b o _ hb _ e n => u.slot b o e n hb (by simp)) (fun b o _ e n => u.free b o e n (by simp)) (fun b o _ e => u.there b o e (by simp)) u.tups u.frzs u.tbls (fun m' hm => by
    obtain ⟨o', es', ep', ho', r'⟩ := hm
    rw [ho] at ho'; cases ho'
    exact ⟨_, es', ep', hL, r'⟩) hok I.bare
/-- behind a call (or a comprehension's block): the slots of this frame may have changed too, the records at ch may have turned -/
theorem Inv.call {g' : Array GenState} {t' : Nat} {d' : Drawn} {ch : List Addr} (I : Inv X pins σ H s) (u : Un (frs X.stack) ch H H' s.heap h') (hok : HOk X.prog X.w H' h') (hg : AllBare g')
    (hch : ∀ b ∈ ch, (b ∈ X.ex ∨ X.s₀.heap.objs.size ≤ b) ∧ b ≠ X.env.locals ∧ (∀ x c, X.env.cells.lookup x = some c → c ≠ b) ∧ ∀ p ∈ X.pn ++ pins, p.1 ≠ b) :
    Inv X pins σ H' { s with heap := h', gens := g', drawn := d', toks := t' } := by
  obtain ⟨m, ⟨o, es, ep, ho, r⟩, _⟩ := id I.loc
  obtain ⟨sl, hL⟩ := u.any ho I.free fun z => (hch _ z).2.1 rfl
  exact I.step (ch := ch) hch (fun b o hL hb hc e n => u.keep b o e n (fun z => (List.mem_cons.mp (I.stkSub b z)).elim hL hb) hc) (fun b o _ _ hc e n => u.any e n hc) (fun b o hc e n => u.free b o e n hc) (fun b o hc e => u.there b o e hc) u.tups u.frzs u.tbls (fun m' hm => by
    obtain ⟨o', es', ep', ho', r'⟩ := hm
    rw [ho] at ho'; cases ho'
    exact ⟨_, es', ep', hL, r'⟩) hok hg
/-- an untracked record of ours (an iterator) has turned -/
theorem Inv.turned {t' : Nat} {it : Addr} (I : Inv X pins σ H s) (k : ∀ b o, b ≠ it → s.heap.get? b = some o → h'.get? b = some o) (hn : H it = none) (hL : it ≠ X.env.locals)
    (h1 : it ∈ X.ex ∨ X.s₀.heap.objs.size ≤ it) (h2 : ∀ x c, X.env.cells.lookup x = some c → c ≠ it) (h3 : ∀ p ∈ X.pn ++ pins, p.1 ≠ it) : Inv X pins σ H { s with heap := h', toks := t' } := by
  have nit : ∀ b u, H b = some u → b ≠ it := fun b u e z => by rw [z, hn] at e; cases e
  refine I.step (g' := s.gens) (d' := s.drawn) (ch := [it]) (fun b hb => ?_) (fun b o _ _ hc e _ => k b o (fun z => hc (by simp [z])) e) (fun b o _ _ hc e _ => ⟨o.slots, k b o (fun z => hc (by simp [z])) e⟩) (fun _ _ _ _ n => n)
    (fun b o hc e => ⟨o, k b o (fun z => hc (by simp [z])) e⟩) (fun _ _ e => e) (fun _ _ _ e => e) (fun b ps e => ⟨#[], by rw [e]; simp⟩) (fun m hm => ?_) (fun b u e => ?_) I.bare
  · have e : b = it := by simpa using hb
    subst e
    exact ⟨h1, hL, h2, h3⟩
  · obtain ⟨o, es, ep, ho, r⟩ := hm
    exact ⟨o, es, ep, k _ o (Ne.symm hL) ho, r⟩
  · refine (I.hok b u e).stay (fun c v hc q => k c v ?_ q) (fun _ q => q) fun _ _ q => q
    rcases hc with z | z
    · rw [z]; exact nit b u e
    · exact nit c _ z
theorem Inv.tok (I : Inv X pins σ H s) (t : Nat) : Inv X pins σ H { s with toks := t } := I.un (h' := s.heap) (t' := t) Un.refl I.hok
/-- all objects kept -/
theorem Inv.kept {t' : Nat} (I : Inv X pins σ H s) (k : ∀ b u, s.heap.get? b = some u → h'.get? b = some u) : Inv X pins σ H { s with heap := h', toks := t' } := I.un (Un.kept k) (I.hok.kept k)
/-- a new object laid and tracked -/
theorem Inv.laid {a : Addr} {o : HO} {t' : Nat} (I : Inv X pins σ H s) (k : ∀ b u, s.heap.get? b = some u → h'.get? b = some u) (hp : s.heap.objs.size ≤ a) (new : ObjOk X.prog X.w (upd H a o) h' a o) :
    Inv X pins σ (upd H a o) { s with heap := h', toks := t' } := I.un (Un.laid k hp (I.hok.fresh hp)) (I.hok.laid k hp new)
/-- an object written -/
theorem Inv.write {x e : Addr} {o : HO} {t' : Nat} (I : Inv X pins σ H s) (mu : Mut (H x)) (he : e = x ∨ H e = some (.own x)) (k : ∀ b u, b ≠ e → s.heap.get? b = some u → h'.get? b = some u) (heo : ∃ u, h'.get? e = some u)
    (new : ObjOk X.prog X.w (upd H x o) h' x o) : Inv X pins σ (upd H x o) { s with heap := h', toks := t' } := I.un (Un.write mu he k heo) (I.hok.write mu he k heo new)
theorem Inv.pins_of {pins' : List (Addr × Obj)} (I : Inv X pins σ H s) (h : ∀ p ∈ pins', s.heap.get? p.1 = some p.2 ∧ H p.1 = none ∧ p.1 ≠ X.env.locals ∧ p.1 ∉ X.fs ∧ ∀ v, p.2.data ≠ .cell v) : Inv X pins' σ H s :=
  ⟨I.ok, I.os, I.bare, I.base, I.loc, I.cell, I.free, I.freeC, fun p hp => (List.mem_append.mp hp).elim (fun z => I.pin p (List.mem_append_left _ z)) (h p), I.hok, I.len⟩

theorem nodup_ix {N : List Str} (hN : N.Nodup) {i j : Nat} {x : Str} (a : N[i]? = some x) (b : N[j]? = some x) : i = j := by
  obtain ⟨h1, e1⟩ := List.getElem?_eq_some_iff.mp a
  obtain ⟨h2, e2⟩ := List.getElem?_eq_some_iff.mp b
  exact (List.getElem_inj hN).mp (e1.trans e2.symm)

/-- a name is stored; what changed -/
theorem store_ok2 {M : Model} {A : Around} {E : Value → Shared → Prop} {i : Nat} {x : Str} {v : V} {u : Value} {Q : Unit → Shared → Prop} (I : Inv X pins σ H s) (hN : X.N.Nodup) (hi : X.N[i]? = some x) (hx : Loc X.env.scope x) (r : RelV v u)
    (h : ∀ s', Inv X pins (σ.set i (some v)) H s' → (∃ a, Heap.SameBut a s.heap s'.heap ∧ (a = X.env.locals ∨ X.env.cells.lookup x = some a)) → Q () s') (hf : X.fn x = true ∨ X.env.scope.names.lookup x = some .local := by first | exact .inl rfl | exact .inr rfl | assumption) : wpAny M A (storeName X.env x u) Q E s := by
  obtain ⟨m, hn, hl⟩ := id I.loc
  have hcls : (X.env.scope.kind == .class || (X.env.scope.kind == .module && X.env.locals != X.env.globals)) = false := by rw [I.ok.kind]; rfl
  have hiσ : i < σ.length := by rw [I.len]; exact (List.getElem?_eq_some_iff.mp hi).1
  have cne := I.cne
  have tracked : ∀ {a : Addr} {h' : Heap}, (∃ o, s.heap.get? a = some o ∧ H a = none) → Heap.SameBut a s.heap h' → HOk X.prog X.w H h' := fun {a h'} ha hs b ob e => by
    obtain ⟨_, _, hfree⟩ := ha
    refine (I.hok b ob e).stay (fun c w' hc q => (hs.2 c ?_).trans q) (fun _ q => q) fun _ _ q => q
    rintro rfl
    rcases hc with rfl | hc
    · rw [hfree] at e; cases e
    · rw [hfree] at hc; cases hc
  rcases hx with hk | hk
  · refine wpAny_storeName_local hk hn (fun h' hn' hs => ?_) hcls
    obtain ⟨oL, _, _, hoL, _⟩ := id hn
    refine h _ ⟨I.ok, I.os, I.bare, ⟨fun b o e n hb hx => ?_, fun b o e n hb hx => ?_, I.base.free, fun b o e hx => ?_, I.base.tups, I.base.frzs, I.base.tbls⟩, ⟨_, hn', fun j y v' e1 e2 e3 => ?_⟩, fun y c e => ?_, I.free, I.freeC, fun p hp => ?_, tracked ⟨oL, hoL, I.free⟩ hs, by simpa using I.len⟩ ⟨_, hs, .inl rfl⟩
    · exact (hs.2 b (Nat.ne_of_lt (Nat.lt_of_lt_of_le (Heap.lt_size e) I.ok.above))).trans (I.base.keep b o e n hb hx)
    · obtain ⟨sl, e1⟩ := I.base.slot b o e n hb hx
      exact ⟨sl, (hs.2 b (Nat.ne_of_lt (Nat.lt_of_lt_of_le (Heap.lt_size e) I.ok.above))).trans e1⟩
    · obtain ⟨o', e1⟩ := I.base.there b o e hx
      exact ⟨o', (hs.2 b (Nat.ne_of_lt (Nat.lt_of_lt_of_le (Heap.lt_size e) I.ok.above))).trans e1⟩
    · by_cases hj : j = i
      · subst hj
        rw [hi] at e1; cases e1
        rw [List.getElem?_set_self hiσ] at e2
        cases e2
        exact ⟨u, r, .inl ⟨hk, by simp⟩⟩
      · rw [List.getElem?_set_ne (Ne.symm hj)] at e2
        obtain ⟨u', r', q⟩ := hl j y v' e1 e2 e3
        refine ⟨u', r', ?_⟩
        rcases q with ⟨k, e⟩ | ⟨k, c, e, z⟩
        · refine .inl ⟨k, ?_⟩
          have : y ≠ x := fun e => hj (nodup_ix hN e1 (e ▸ hi))
          simp [this, e]
        · exact .inr ⟨k, c, e, z.sameBut hs (cne y c e)⟩
    · obtain ⟨w', z⟩ := I.cell y c e
      exact ⟨w', z.sameBut hs (cne y c e)⟩
    · obtain ⟨e, n, ne, nf, d⟩ := I.pin p hp
      exact ⟨(hs.2 p.1 ne).trans e, n, ne, nf, d⟩
  · have hfn : X.fn x = true := by
      rcases hf with z | z
      · exact z
      · rw [z] at hk; cases hk
    obtain ⟨c, hc⟩ := I.ok.has x (.inl hk)
    obtain ⟨w', z⟩ := I.cell x c hc
    refine wpAny_storeName_cell I.ok.kind hk hc z (fun h' hc' hs => ?_)
    obtain ⟨oc, hoc, hocd⟩ := id z
    refine h { s with heap := h' } ⟨I.ok, I.os, I.bare, ⟨fun b o e n hb hx => ?_, fun b o e n hb hx => ?_, I.base.free, fun b o e hx => ?_, I.base.tups, I.base.frzs, I.base.tbls⟩, ⟨m, hn.sameBut hs (Ne.symm (cne x c hc)), fun j y v' e1 e2 e3 => ?_⟩, fun y c' e => ?_, I.free, I.freeC, fun p hp => ?_, tracked ⟨oc, hoc, I.freeC x c hc⟩ hs, by simpa using I.len⟩ ⟨c, hs, .inr hc⟩
    · exact (hs.2 b (Nat.ne_of_lt (Nat.lt_of_lt_of_le (Heap.lt_size e) (I.ok.cab x c hfn hc)))).trans (I.base.keep b o e n hb hx)
    · obtain ⟨sl, e1⟩ := I.base.slot b o e n hb hx
      exact ⟨sl, (hs.2 b (Nat.ne_of_lt (Nat.lt_of_lt_of_le (Heap.lt_size e) (I.ok.cab x c hfn hc)))).trans e1⟩
    · obtain ⟨o', e1⟩ := I.base.there b o e hx
      exact ⟨o', (hs.2 b (Nat.ne_of_lt (Nat.lt_of_lt_of_le (Heap.lt_size e) (I.ok.cab x c hfn hc)))).trans e1⟩
    · by_cases hj : j = i
      · subst hj
        rw [hi] at e1; cases e1
        rw [List.getElem?_set_self hiσ] at e2
        cases e2
        exact ⟨u, r, .inr ⟨.inl hk, c, hc, hc'⟩⟩
      · rw [List.getElem?_set_ne (Ne.symm hj)] at e2
        obtain ⟨u', r', q⟩ := hl j y v' e1 e2 e3
        refine ⟨u', r', ?_⟩
        rcases q with q | ⟨k, c', e, z'⟩
        · exact .inl q
        · refine .inr ⟨k, c', e, z'.sameBut hs ?_⟩
          rintro rfl
          exact hj (nodup_ix hN e1 (I.ok.inj _ _ _ e hc ▸ hi))
    · by_cases hcc : c' = c
      · subst hcc; exact ⟨_, hc'⟩
      · obtain ⟨w2, z2⟩ := I.cell y c' e
        exact ⟨w2, z2.sameBut hs hcc⟩
    · obtain ⟨e, n, ne, nf, d⟩ := I.pin p hp
      refine ⟨(hs.2 p.1 ?_).trans e, n, ne, nf, d⟩
      intro q
      rw [q, hoc] at e
      have q' : oc = p.2 := Option.some.inj e
      exact d w' (by rw [← q']; exact hocd)
theorem store_ok {M : Model} {A : Around} {E : Value → Shared → Prop} {i : Nat} {x : Str} {v : V} {u : Value} {Q : Unit → Shared → Prop} (I : Inv X pins σ H s) (hN : X.N.Nodup) (hi : X.N[i]? = some x) (hx : Loc X.env.scope x) (r : RelV v u)
    (h : ∀ s', Inv X pins (σ.set i (some v)) H s' → Q () s') (hf : X.fn x = true ∨ X.env.scope.names.lookup x = some .local := by first | exact .inl rfl | exact .inr rfl | assumption) : wpAny M A (storeName X.env x u) Q E s :=
  store_ok2 I hN hi hx r (fun s' I' _ => h s' I') hf
/-- behind a call or a block, the state as it is -/
theorem Inv.call' {s' : Shared} {ch : List Addr} (I : Inv X pins σ H s) (ho : s'.os = s.os) (u : Un (frs X.stack) ch H H' s.heap s'.heap) (hok : HOk X.prog X.w H' s'.heap) (hg : AllBare s'.gens)
    (hch : ∀ b ∈ ch, (b ∈ X.ex ∨ X.s₀.heap.objs.size ≤ b) ∧ b ≠ X.env.locals ∧ (∀ x c, X.env.cells.lookup x = some c → c ≠ b) ∧ ∀ p ∈ X.pn ++ pins, p.1 ≠ b) : Inv X pins σ H' s' := by
  obtain ⟨h', g', d', t', o'⟩ := s'
  have e : o' = s.os := ho
  subst e
  exact I.call (g' := g') (t' := t') (d' := d') u hok hg hch
end

/-! ### the judgements -/
/-- an exception: its class, its own dict's address (where it has one), the abstract heap behind it -/
noncomputable abbrev XK := Value → Option Addr → Hp → Prop
noncomputable abbrev St := List (Option V)
noncomputable abbrev VK := V → Hp → Prop
/-- an expression's reading; a test's; an argument list's -/
noncomputable abbrev TE := St → Hp → VK → Prop
noncomputable abbrev TT := St → Hp → (Bool → Hp → Prop) → Prop
noncomputable abbrev TA := St → Hp → (List V → Hp → Prop) → Prop
/-- what is wanted behind a statement -/
structure Ends where
  nx : St → Hp → Prop
  rt : VK
  bk : St → Hp → Prop := fun _ _ => False
  ct : St → Hp → Prop := fun _ _ => False
noncomputable abbrev TS := Ends → St → Hp → Prop

noncomputable def EP (X : Cx) (pins : List (Addr × Obj)) (σ : St) (Q : VK) (u : Value) (s' : Shared) : Prop := ∃ v H', Inv X pins σ H' s' ∧ RelV v u ∧ Q v H'
noncomputable def TP (X : Cx) (pins : List (Addr × Obj)) (σ : St) (Q : Bool → Hp → Prop) (b : Bool) (s' : Shared) : Prop := ∃ H', Inv X pins σ H' s' ∧ Q b H'
noncomputable def AP (X : Cx) (pins : List (Addr × Obj)) (σ : St) (Q : List V → Hp → Prop) (us : List Value) (s' : Shared) : Prop := ∃ vs H', Inv X pins σ H' s' ∧ Vals vs us ∧ Q vs H'
noncomputable def SP (X : Cx) (pins : List (Addr × Obj)) (D : Ends) (f : Flow) (s' : Shared) : Prop :=
  match f with
  | .next => ∃ σ' H', Inv X pins σ' H' s' ∧ D.nx σ' H'
  | .brk => ∃ σ' H', Inv X pins σ' H' s' ∧ D.bk σ' H'
  | .cont => ∃ σ' H', Inv X pins σ' H' s' ∧ D.ct σ' H'
  | .ret u => ∃ v σ' H', Inv X pins σ' H' s' ∧ RelV v u ∧ D.rt v H'

noncomputable def PE (X : Cx) (e : Expr) (t : TE) : Prop :=
  ∀ (pins : List (Addr × Obj)) (s : Shared) (σ : St) (H : Hp) (Q : VK), Inv X pins σ H s → t σ H Q → wpAny (model X.prog X.w) X.A (eval e X.env) (EP X pins σ Q) X.xe s
noncomputable def PT (X : Cx) (e : Expr) (t : TT) : Prop :=
  ∀ (pins : List (Addr × Obj)) (s : Shared) (σ : St) (H : Hp) (Q : Bool → Hp → Prop), Inv X pins σ H s → t σ H Q → wpAny (model X.prog X.w) X.A (isTrue e X.env (eval e X.env)) (TP X pins σ Q) X.xe s
/-- a test whatever its 'whole' is (and, or) -/
noncomputable def PW (X : Cx) (e : Expr) (t : TT) : Prop :=
  ∀ (whole : Sem Value) (pins : List (Addr × Obj)) (s : Shared) (σ : St) (H : Hp) (Q : Bool → Hp → Prop), Inv X pins σ H s → t σ H Q → wpAny (model X.prog X.w) X.A (isTrue e X.env whole) (TP X pins σ Q) X.xe s
theorem PW.pt {X : Cx} {e : Expr} {t : TT} (h : PW X e t) : PT X e t := h _
/-- an argument list (no star), from the left -/
noncomputable def PA (X : Cx) (es : List Expr) (t : TA) : Prop :=
  ∀ (pos : Pos) (pins : List (Addr × Obj)) (s : Shared) (σ : St) (H : Hp) (Q : List V → Hp → Prop), Inv X pins σ H s → t σ H Q → wpAny (model X.prog X.w) X.A (spliced (backTo pos (starEach es X.env))) (AP X pins σ Q) X.xe s
noncomputable def PS (X : Cx) (st : Stmt) (t : TS) : Prop :=
  ∀ (pins : List (Addr × Obj)) (s : Shared) (σ : St) (H : Hp) (D : Ends), Inv X pins σ H s → t D σ H → wpAny (model X.prog X.w) X.A (exec st X.env) (SP X pins D) X.xe s
noncomputable def PSs (X : Cx) (st : List Stmt) (t : TS) : Prop :=
  ∀ (pins : List (Addr × Obj)) (s : Shared) (σ : St) (H : Hp) (D : Ends), Inv X pins σ H s → t D σ H → wpAny (model X.prog X.w) X.A (execs st X.env) (SP X pins D) X.xe s
/-- weaken the end -/
theorem thn {α : Type} {t : Sem α} {Q Q' : α → Shared → Prop} {M : Model} {A : Around} {E : Value → Shared → Prop} {s : Shared} (h : wpAny M A t Q E s) (hQ : ∀ a s, Q a s → Q' a s) : wpAny M A t Q' E s := wpAny_mono h hQ fun _ _ x => x
end L2

namespace L2
open PySem PySem.Spec PyProof.Rows
section
variable {X : Cx}


/-! ### names and constants -/
noncomputable def tVar (i : Nat) : TE := fun σ H Q => ∃ v, σ[i]? = some (some v) ∧ Q v H
noncomputable def tC (v : V) : TE := fun _ H Q => Q v H
theorem pe_var {i : Nat} {x : Str} {pos : Pos} (hN : X.N[i]? = some x) (hv : Vis X.env.scope x) (hd : (x == ("__debug__" : Str)) = false := by decide) (hcd : (x == ("__classdict__" : Str)) = false := by decide) : PE X (.Name x pos) (tVar i) := by
  intro pins s σ H Q I h
  obtain ⟨v, e, h⟩ := h
  obtain ⟨m, hn, hl⟩ := I.loc
  obtain ⟨u, r, l⟩ := hl i x v hN e hv
  have fin : EP X pins σ Q u s := ⟨v, H, I, r, h⟩
  rcases l with ⟨hk, hm⟩ | ⟨hk, c, hc, hcell⟩
  · exact wpAny_Name (wpAny_loadName_local I.ok.kind hk hn hm fin) hd
  · rcases hk with hk | hk
    · exact wpAny_Name (wpAny_loadName_cell I.ok.kind hk hc hcell fin) hd
    · exact wpAny_Name (wpAny_loadName_free I.ok.kind hk hc hcell fin hcd) hd
theorem pe_int {i j pos} : PE X (.Constant (.int i) j pos) (tC (.int i)) := fun _ _ _ H _ I h => wpAny_Constant_int ⟨.int i, H, I.tok _, ⟨_, rfl⟩, h⟩
theorem pe_bl {b j pos} : PE X (.Constant (.bool b) j pos) (tC (.bl b)) := fun _ _ _ H _ I h => Constant_bool ⟨.bl b, H, I, rfl, h⟩
theorem pe_non {j pos} : PE X (.Constant .none j pos) (tC .non) := fun _ _ _ H _ I h => Constant_none ⟨.non, H, I, rfl, h⟩
theorem pe_str {x j pos} : PE X (.Constant (.str x) j pos) (tC (.str x)) := fun _ _ _ H _ I h => Calls.Constant_str ⟨.str x, H, I.tok _, ⟨_, rfl⟩, h⟩

/-- a global name of the def -/
noncomputable def Gl (X : Cx) (x : Str) : Prop := X.env.kindOf x = some .globalImplicit
theorem ld_glob {E : Value → Shared → Prop} {pins : List (Addr × Obj)} {s : Shared} {σ : St} {H : Hp} {x : Str} {u : Value} {pos : Pos} {Q : Value → Shared → Prop} (I : Inv X pins σ H s) (hg : Gl X x) (hm : X.mg x = some u) (h : Q u s)
    (hd : (x == ("__debug__" : Str)) = false := by decide) : wpAny (model X.prog X.w) X.A (eval (.Name x pos) X.env) Q E s :=
  Calls.Name_function_global I.ok.kind hg (Calls.loadGlobal_global (by rw [I.ok.glob]; exact I.mod.glob.keeps I.bk) hm h) hd
theorem ld_blt {E : Value → Shared → Prop} {pins : List (Addr × Obj)} {s : Shared} {σ : St} {H : Hp} {x : Str} {u : Value} {pos : Pos} {Q : Value → Shared → Prop} (I : Inv X pins σ H s) (hg : Gl X x) (hm : X.mg x = none) (hv : bootBuiltins x = some u) (h : Q u s)
    (hn : x ≠ "__name__" := by decide) (hd : (x == ("__debug__" : Str)) = false := by decide) : wpAny (model X.prog X.w) X.A (eval (.Name x pos) X.env) Q E s := by
  obtain ⟨mb, h1, h2⟩ := I.mod.blt
  exact Calls.Name_function_global I.ok.kind hg (Calls.loadGlobal_builtin (by rw [I.ok.glob]; exact I.mod.glob.keeps I.bk) hm (by rw [I.ok.blt]; exact h1.keeps I.bk) ((h2 x hn).trans hv) h) hd
/-- a module's constant, a class, a function, as a value -/
theorem pe_glob {x : Str} {v : V} {u : Value} {pos : Pos} (hg : Gl X x) (hm : X.mg x = some u) (r : RelV v u) (hd : (x == ("__debug__" : Str)) = false := by decide) : PE X (.Name x pos) (tC v) :=
  fun _ _ _ H _ I h => ld_glob I hg hm ⟨v, H, I, r, h⟩ hd
theorem pe_bltn {x : Str} {v : V} {u : Value} {pos : Pos} (hg : Gl X x) (hm : X.mg x = none) (hv : bootBuiltins x = some u) (r : RelV v u) (hn : x ≠ "__name__" := by decide) (hd : (x == ("__debug__" : Str)) = false := by decide) : PE X (.Name x pos) (tC v) :=
  fun _ _ _ H _ I h => ld_blt I hg hm hv ⟨v, H, I, r, h⟩ hn hd

/-! ### arithmetic -/
variable {a b : Expr} {ta tb : TE} {pos : Pos}

/-! ### comparisons -/
/-- a comparison as a value, as a test -/
noncomputable def tB (t : TE) : TT := fun σ H Q => t σ H fun x H1 => ∃ c, x = .bl c ∧ Q c H1
/-- an expression whose value is a bool, as a test -/
theorem pt_val {e : Expr} {t : TE} (h : PE X e t) (he : ∀ whole, isTrue e X.env whole = (do let v ← whole; standAt e.pos; holding [v] (truthy v)) := by intro _; rfl) : PT X e (tB t) := by
  intro pins s σ H Q I hw
  (refine isTrue_plain (thn (h pins s σ H _ I hw) ?_) (he _); rintro v s1 ⟨x, H1, I1, r1, q1⟩)
  obtain ⟨d, rfl, q⟩ := q1
  cases r1
  exact wpAny_truthy_bool ⟨H1, I1, q⟩

/-! ### and, or, not -/
variable {tA tB' : TT} {rest : List Expr}
noncomputable def tAnd (t u : TT) : TT := fun σ H Q => t σ H fun c H1 => if c = true then u σ H1 Q else Q false H1
noncomputable def tOr (t u : TT) : TT := fun σ H Q => t σ H fun c H1 => if c = true then Q true H1 else u σ H1 Q
noncomputable def tNot (t : TT) : TT := fun σ H Q => t σ H fun c H1 => Q (!c) H1
theorem pw_and1 (ha : PT X a tA) : PW X (.BoolOp .And [a] pos) tA := by
  intro wh pins s σ H Q I h
  refine isTrue_and (thn (ha pins s σ H Q I h) fun c s1 e => ?_)
  cases c with
  | true => exact isTrue_and_nil e
  | false => exact e
theorem pw_or1 (ha : PT X a tA) : PW X (.BoolOp .Or [a] pos) tA := by
  intro wh pins s σ H Q I h
  refine isTrue_or (thn (ha pins s σ H Q I h) fun c s1 e => ?_)
  cases c with
  | false => exact isTrue_or_nil e
  | true => exact e
theorem pw_and (ha : PT X a tA) (hb : PW X (.BoolOp .And (b :: rest) pos) tB') : PW X (.BoolOp .And (a :: b :: rest) pos) (tAnd tA tB') := by
  intro wh pins s σ H Q I h
  (refine isTrue_and (thn (ha pins s σ H _ I h) ?_); rintro c s1 ⟨H1, I1, q1⟩)
  cases c with
  | true => exact hb wh pins s1 σ H1 Q I1 q1
  | false => exact ⟨H1, I1, q1⟩
theorem pw_or (ha : PT X a tA) (hb : PW X (.BoolOp .Or (b :: rest) pos) tB') : PW X (.BoolOp .Or (a :: b :: rest) pos) (tOr tA tB') := by
  intro wh pins s σ H Q I h
  (refine isTrue_or (thn (ha pins s σ H _ I h) ?_); rintro c s1 ⟨H1, I1, q1⟩)
  cases c with
  | true => exact ⟨H1, I1, q1⟩
  | false => exact hb wh pins s1 σ H1 Q I1 q1
theorem pt_not (ha : PT X a tA) : PT X (.UnaryOp .Not a pos) (tNot tA) := by
  intro pins s σ H Q I h
  exact isTrue_not (ha pins s σ H (fun c H1 => Q (!c) H1) I h)
/-- .. as values (bools) -/
noncomputable def tAndV (ta tb : TE) : TE := fun σ H Q => ta σ H fun x H1 => ∃ c, x = .bl c ∧ if c = true then tb σ H1 Q else Q (.bl false) H1
noncomputable def tNotV (ta : TE) : TE := fun σ H Q => ta σ H fun x H1 => ∃ c, x = .bl c ∧ Q (.bl (!c)) H1
theorem pe_one {op} {t : TE} (h : PE X a t) : PE X (.BoolOp op [a] pos) t := fun pins s σ H Q I hw => BoolOp_one (h pins s σ H Q I hw)
theorem pe_and (ha : PE X a ta) (hb : PE X (.BoolOp .And (b :: rest) pos) tb) : PE X (.BoolOp .And (a :: b :: rest) pos) (tAndV ta tb) := by
  intro pins s σ H Q I h
  (refine BoolOp_and (thn (ha pins s σ H _ I h) ?_); rintro v s1 ⟨x, H1, I1, r1, q1⟩)
  obtain ⟨c, rfl, q1⟩ := q1
  cases r1
  refine wpAny_truthy_bool ?_
  cases c with
  | true => exact hb pins s1 σ H1 Q I1 q1
  | false => exact ⟨.bl false, H1, I1, rfl, q1⟩
theorem pe_not (ha : PE X a ta) : PE X (.UnaryOp .Not a pos) (tNotV ta) := by
  intro pins s σ H Q I h
  (refine UnaryOp_ (thn (ha pins s σ H _ I h) ?_); rintro v s1 ⟨x, H1, I1, r1, q1⟩)
  obtain ⟨c, rfl, q1⟩ := q1
  cases r1
  exact not_of (wpAny_truthy_bool ⟨.bl (!c), H1, I1, rfl, q1⟩)
/-- a if t else b -/
noncomputable def tIf (t : TT) (ta tb : TE) : TE := fun σ H Q => t σ H fun c H1 => if c = true then ta σ H1 Q else tb σ H1 Q
theorem pe_ifExp {c : Expr} (hc : PT X c tA) (ha : PE X a ta) (hb : PE X b tb) : PE X (.IfExp c a b pos) (tIf tA ta tb) := by
  intro pins s σ H Q I h
  (refine wpAny_IfExp (thn (hc pins s σ H _ I h) ?_); rintro d s1 ⟨H1, I1, q1⟩)
  cases d with
  | true => exact ha pins s1 σ H1 Q I1 q1
  | false => exact hb pins s1 σ H1 Q I1 q1
end
end L2

namespace L2
open PySem PySem.Spec PyProof.Rows

/-! ### a list, a tuple that is read: tracked, frozen, or an object of the module -/
noncomputable def SqL (K : PySem.W.Frag) (H : Hp) (a : Addr) (xs : List V) : Prop :=
  Rd H a (.lst xs) ∨
    ∃ (o : Obj) (its : Array Value) (n : Nat), K.lookup a = some o ∧ o.cls = .type "list" ∧ o.dict = none ∧ o.data = .seq its n ∧ its.size ≤ sizeLine ∧ Vals xs its.toList
noncomputable def SqT (K : PySem.W.Frag) (H : Hp) (a : Addr) (xs : List V) : Prop :=
  Rd H a (.tup xs) ∨
    ∃ (o : Obj) (its : Array Value) (n : Nat), K.lookup a = some o ∧ o.cls = .type "tuple" ∧ o.data = .seq its n ∧ its.size ≤ sizeLine ∧ Vals xs its.toList
noncomputable def absV : Value → Option V
  | .none => some .non
  | .bool b => some (.bl b)
  | .int i _ => some (.int i)
  | .str x _ => some (.str x)
  | .bytes b _ => some (.byt b)
  | .float b _ => some (.flt b)
  | .ref a => some (.ref a)
  | .type n => some (.ty n)
  | _ => none
theorem RelV.abs {x : V} {u : Value} (r : RelV x u) : absV u = some x := by
  cases x with
  | non => cases r; rfl
  | bl _ => cases r; rfl
  | int _ => obtain ⟨t, rfl⟩ := r; rfl
  | str _ => obtain ⟨t, rfl⟩ := r; rfl
  | byt _ => obtain ⟨t, rfl⟩ := r; rfl
  | flt _ => obtain ⟨t, rfl⟩ := r; rfl
  | ref _ => cases r; rfl
  | ty _ => cases r; rfl
theorem RelV.inj {x y : V} {u : Value} (r : RelV x u) (q : RelV y u) : x = y := Option.some.inj (r.abs.symm.trans q.abs)
theorem Vals.inj : ∀ {xs ys : List V} {us : List Value}, Vals xs us → Vals ys us → xs = ys
  | _, _, _, .nil, .nil => rfl
  | _, _, _, .cons r t, .cons r' t' => by rw [r.inj r', Vals.inj t t']
section
variable {X : Cx} {pins : List (Addr × Obj)} {σ : St} {H : Hp} {s : Shared} {a : Addr} {xs ys : List V}
theorem SqL.of {K : PySem.W.Frag} (h : H a = some (.lst xs)) : SqL K H a xs := .inl (.inl h)
theorem SqT.of {K : PySem.W.Frag} (h : H a = some (.tup xs)) : SqT K H a xs := .inl (.inl h)
theorem Inv.list (I : Inv X pins σ H s) (h : SqL X.K H a xs) : ∃ its : List Value, Vals xs its ∧ PlainL s.heap a its.toArray ∧ xs.length ≤ sizeLine := by
  rcases h with h | ⟨o, its, n, hk, hc, hd, hs, hz, r⟩
  · obtain ⟨z, its, n, r, e⟩ := h.ok I.hok
    exact ⟨its, r, ⟨_, n, e, rfl, rfl, rfl⟩, z⟩
  · refine ⟨its.toList, r, ⟨o, n, I.kIn a o hk, hc, hd, by simpa using hs⟩, ?_⟩
    have e := r.length
    simp only [Array.length_toList] at e
    omega
theorem Inv.tuple (I : Inv X pins σ H s) (h : SqT X.K H a xs) : ∃ its : List Value, Vals xs its ∧ IsTup s.heap a its.toArray ∧ xs.length ≤ sizeLine := by
  rcases h with h | ⟨o, its, n, hk, hc, hs, hz, r⟩
  · obtain ⟨z, its, r, p⟩ := h.ok I.hok
    exact ⟨its, r, p, z⟩
  · refine ⟨its.toList, r, ⟨o, I.kIn a o hk, hc, n, by simpa using hs⟩, ?_⟩
    have e := r.length
    simp only [Array.length_toList] at e
    omega
theorem Inv.list_inj (I : Inv X pins σ H s) (h : SqL X.K H a xs) (h' : SqL X.K H a ys) : xs = ys := by
  obtain ⟨its, r, ⟨o, n, e, _, _, d⟩, _⟩ := I.list h
  obtain ⟨its', r', ⟨o', n', e', _, _, d'⟩, _⟩ := I.list h'
  rw [e] at e'; cases e'
  rw [d] at d'
  injection d' with d1 _
  have : its = its' := by simpa using congrArg Array.toList d1
  subst this
  exact r.inj r'
theorem Inv.tuple_inj (I : Inv X pins σ H s) (h : SqT X.K H a xs) (h' : SqT X.K H a ys) : xs = ys := by
  obtain ⟨its, r, ⟨o, e, _, n, d⟩, _⟩ := I.tuple h
  obtain ⟨its', r', ⟨o', e', _, n', d'⟩, _⟩ := I.tuple h'
  rw [e] at e'; cases e'
  rw [d] at d'
  injection d' with d1 _
  have : its = its' := by simpa using congrArg Array.toList d1
  subst this
  exact r.inj r'
end

/-! ### another wish about exceptions -/
noncomputable abbrev Cx.wish (X : Cx) (E : Value → Shared → Prop) : Cx := { X with xe := E }
/-- no exception leaves -/
noncomputable abbrev Cx.nox (X : Cx) : Cx := X.wish fun _ _ => False
theorem Cx.Ok.wish {X : Cx} (ok : X.Ok) (E : Value → Shared → Prop) : (X.wish E).Ok :=
  ⟨ok.mod, ok.kind, ok.glob, ok.blt, ok.above, ok.inj, ok.has, ok.cab, ok.hd, ok.frames, ok.stk, ok.exf, ok.bs, ok.bsz, ok.noex, ok.exfs, ok.funs, ok.frf⟩
theorem Cx.Ok.unwish {X : Cx} {E : Value → Shared → Prop} (ok : (X.wish E).Ok) : X.Ok :=
  ⟨ok.mod, ok.kind, ok.glob, ok.blt, ok.above, ok.inj, ok.has, ok.cab, ok.hd, ok.frames, ok.stk, ok.exf, ok.bs, ok.bsz, ok.noex, ok.exfs, ok.funs, ok.frf⟩
section
variable {X : Cx} {pins : List (Addr × Obj)} {σ : St} {H : Hp} {s : Shared} {E : Value → Shared → Prop}
theorem Inv.wish (I : Inv X pins σ H s) (E : Value → Shared → Prop) : Inv (X.wish E) pins σ H s := ⟨I.ok.wish E, I.os, I.bare, I.base, I.loc, I.cell, I.free, I.freeC, I.pin, I.hok, I.len⟩
theorem Inv.unwish (I : Inv (X.wish E) pins σ H s) : Inv X pins σ H s := ⟨I.ok.unwish, I.os, I.bare, I.base, I.loc, I.cell, I.free, I.freeC, I.pin, I.hok, I.len⟩
theorem SP.unwish {D : Ends} {f : Flow} {s' : Shared} (h : SP (X.wish E) pins D f s') : SP X pins D f s' := by
  cases f with
  | next => obtain ⟨σ', H', I, q⟩ := h; exact ⟨σ', H', I.unwish, q⟩
  | brk => obtain ⟨σ', H', I, q⟩ := h; exact ⟨σ', H', I.unwish, q⟩
  | cont => obtain ⟨σ', H', I, q⟩ := h; exact ⟨σ', H', I.unwish, q⟩
  | ret u => obtain ⟨v, σ', H', I, r, q⟩ := h; exact ⟨v, σ', H', I.unwish, r, q⟩
theorem PE.nox {e : Expr} {t : TE} (h : PE X.nox e t) : PE X e t := fun pins s σ H Q I hw =>
  wpAny_mono (h pins s σ H Q (I.wish _) hw) (fun _ _ ⟨v, H', I', r, q⟩ => ⟨v, H', I'.unwish, r, q⟩) fun _ _ z => False.elim z
theorem PT.nox {e : Expr} {t : TT} (h : PT X.nox e t) : PT X e t := fun pins s σ H Q I hw =>
  wpAny_mono (h pins s σ H Q (I.wish _) hw) (fun _ _ ⟨H', I', q⟩ => ⟨H', I'.unwish, q⟩) fun _ _ z => False.elim z
theorem PSs.nox {st : List Stmt} {t : TS} (h : PSs X.nox st t) : PSs X st t := fun pins s σ H D I hw =>
  wpAny_mono (h pins s σ H D (I.wish _) hw) (fun _ _ q => q.unwish) fun _ _ z => False.elim z
end

/-! ### blocks and small statements -/
section
variable {X : Cx} {st : Stmt} {rest : List Stmt} {t u : TS} {e : Expr} {te : TE} {pos : Pos}
noncomputable def tNext : TS := fun D σ H => D.nx σ H
noncomputable def tSeq (t u : TS) : TS := fun D σ H => t { D with nx := u D } σ H
theorem pss_nil : PSs X [] tNext := fun _ _ σ H _ I h => wpAny_execs_nil ⟨σ, H, I, h⟩
theorem pss_cons (h1 : PS X st t) (h2 : PSs X rest u) : PSs X (st :: rest) (tSeq t u) := by
  intro pins s σ H D I h
  refine wpAny_execs_cons (thn (h1 pins s σ H { D with nx := u D } I h) fun f s1 q => ?_)
  cases f with
  | next =>
    obtain ⟨σ', H', I', q⟩ := q
    exact h2 pins s1 σ' H' D I' q
  | ret v => exact q
  | brk => exact q
  | cont => exact q
theorem pss_one (h1 : PS X st t) : PSs X [st] t := by
  intro pins s σ H D I h
  refine wpAny_execs_cons (thn (h1 pins s σ H D I h) fun f s1 q => ?_)
  cases f with
  | next => exact wpAny_execs_nil q
  | ret v => exact q
  | brk => exact q
  | cont => exact q
/-- in a def's body nothing is shown -/
theorem Inv.quiet {pins : List (Addr × Obj)} {σ : St} {H : Hp} {s : Shared} (I : Inv X pins σ H s) : interactive X.env = false := by simp [interactive, I.ok.kind]
/-- an expression whose value is dropped -/
noncomputable def tDrop (te : TE) : TS := fun D σ H => te σ H fun _ H1 => D.nx σ H1
theorem ps_expr (he : PE X e te) (hs : swapsWith e none pos.line X.env = pure false := by rfl) : PS X (.Expr e pos) (tDrop te) := by
  intro pins s σ H D I h
  (refine wpAny_Expr_any (thn (he pins s σ H _ I h) ?_) I.quiet hs; rintro v s1 ⟨x, H1, I1, r1, q1⟩; exact ⟨σ, H1, I1, q1⟩)
noncomputable def tRet (te : TE) : TS := fun D σ H => te σ H D.rt
theorem ps_ret (he : PE X e te) : PS X (.Return (some e) pos) (tRet te) := by
  intro pins s σ H D I h
  (refine wpAny_Return_some (thn (he pins s σ H _ I h) ?_); rintro v s1 ⟨x, H1, I1, r1, q1⟩; exact ⟨x, σ, H1, I1, r1, q1⟩)
noncomputable def tRetN : TS := fun D _ H => D.rt .non H
theorem ps_retN : PS X (.Return none pos) tRetN := fun _ _ σ H _ I h => wpAny_Return_none ⟨.non, σ, H, I, rfl, h⟩
noncomputable def tIfS (c : TT) (t u : TS) : TS := fun D σ H => c σ H fun b H1 => if b = true then t D σ H1 else u D σ H1
theorem ps_if {c : Expr} {a b : List Stmt} {tc : TT} (hc : PT X c tc) (ha : PSs X a t) (hb : PSs X b u) : PS X (.If c a b pos) (tIfS tc t u) := by
  intro pins s σ H D I h
  (refine wpAny_If (thn (hc pins s σ H _ I h) ?_); rintro d s1 ⟨H1, I1, q1⟩)
  cases d with
  | true => exact ha pins s1 σ H1 D I1 q1
  | false => exact hb pins s1 σ H1 D I1 q1
end

/-! ### targets -/
noncomputable abbrev TG := V → St → Hp → (St → Hp → Prop) → Prop
noncomputable abbrev TGs := List V → St → Hp → (St → Hp → Prop) → Prop
noncomputable def PG (X : Cx) (target : Expr) (t : TG) : Prop :=
  ∀ (pins : List (Addr × Obj)) (s : Shared) (σ : St) (H : Hp) (v : V) (u : Value) (Q : St → Hp → Prop), Inv X pins σ H s → RelV v u → t v σ H Q →
    wpAny (model X.prog X.w) X.A (assign target X.env u) (fun _ s' => ∃ σ' H', Inv X pins σ' H' s' ∧ Q σ' H') X.xe s
/-- several targets, one after another -/
noncomputable def PGs (X : Cx) (ts : List Expr) (t : TGs) : Prop :=
  ∀ (pins : List (Addr × Obj)) (s : Shared) (σ : St) (H : Hp) (vs : List V) (us : List Value) (Q : St → Hp → Prop), Inv X pins σ H s → Vals vs us → t vs σ H Q →
    wpAny (model X.prog X.w) X.A (assignInOrder ((assignEach ts X.env).map (·.2)) us) (fun _ s' => ∃ σ' H', Inv X pins σ' H' s' ∧ Q σ' H') X.xe s
/-- o[i] = v, by values -/
noncomputable abbrev TSet := V → V → V → Hp → (Hp → Prop) → Prop
noncomputable def PSet (X : Cx) (t : TSet) : Prop :=
  ∀ (pins : List (Addr × Obj)) (s : Shared) (σ : St) (H : Hp) (o i v : V) (ov iv u : Value) (Q : Hp → Prop), Inv X pins σ H s → RelV o ov → RelV i iv → RelV v u → t o i v H Q →
    wpAny (model X.prog X.w) X.A (setItem ov iv u) (fun _ s' => ∃ H', Inv X pins σ H' s' ∧ Q H') X.xe s
/-- a op= b, by values -/
noncomputable abbrev TIp := V → V → Hp → VK → Prop
noncomputable def PIp (X : Cx) (op : Operator) (t : TIp) : Prop :=
  ∀ (pins : List (Addr × Obj)) (s : Shared) (σ : St) (H : Hp) (x y : V) (v u : Value) (Q : VK), Inv X pins σ H s → RelV x v → RelV y u → t x y H Q →
    wpAny (model X.prog X.w) X.A (inplaceOp op v u) (EP X pins σ Q) X.xe s
section
variable {X : Cx} {pos : Pos}
noncomputable def gName (i : Nat) : TG := fun v σ H Q => Q (σ.set i (some v)) H
theorem pg_name {i : Nat} {x : Str} (hN : X.N.Nodup) (hi : X.N[i]? = some x) (hx : Loc X.env.scope x) (hf : X.fn x = true ∨ X.env.scope.names.lookup x = some .local := by first | exact .inl rfl | exact .inr rfl | assumption) : PG X (.Name x pos) (gName i) := by
  intro pins s σ H v u Q I r h
  exact wpAny_assign_Name (store_ok I hN hi hx r (fun s' I' => ⟨_, H, I', h⟩) hf)
noncomputable def gNil : TGs := fun vs σ H Q => vs = [] ∧ Q σ H
noncomputable def gCons (t : TG) (u : TGs) : TGs := fun vs σ H Q => ∃ v r, vs = v :: r ∧ t v σ H fun σ' H' => u r σ' H' Q
theorem pgs_nil : PGs X [] gNil := by
  intro pins s σ H vs us Q I r h
  obtain ⟨e, h⟩ := h
  subst e
  cases r
  exact assignInOrder_nil ⟨σ, H, I, h⟩
theorem pgs_cons {e : Expr} {es : List Expr} {t : TG} {u : TGs} (h1 : PG X e t) (h2 : PGs X es u)
    (hs : (assignEach (e :: es) X.env).map (·.2) = assign e X.env :: (assignEach es X.env).map (·.2) := by rfl) : PGs X (e :: es) (gCons t u) := by
  intro pins s σ H vs us Q I r h
  obtain ⟨v, vr, e1, h⟩ := h
  subst e1
  cases r with
  | cons r rr =>
    rw [hs]
    (refine assignInOrder_cons (thn (h1 pins s σ H _ _ _ I r h) ?_); rintro _ s1 ⟨σ1, H1, I1, q1⟩)
    exact h2 pins s1 σ1 H1 _ _ Q I1 rr q1
/-- (a, b, ..) = a tuple of that length -/
noncomputable def gTup (K : PySem.W.Frag) (n : Nat) (t : TGs) : TG := fun v σ H Q => ∃ a xs, v = .ref a ∧ SqT K H a xs ∧ xs.length = n ∧ t xs σ H Q
theorem pg_tup {es : List Expr} {k : Nat} {t : TGs} {n : Nat} (hc : X.calm = true) (h : PGs X es t)
    (hn : (assignEach es X.env).length = n := by rfl) (hst : (assignEach es X.env).findIdx? (·.1) = none := by rfl) : PG X (.Tuple es k pos) (gTup X.K n t) := by
  intro pins s σ H v u Q I r hw
  obtain ⟨a, xs, e1, hq, hl, hw⟩ := hw
  subst e1
  cases r
  obtain ⟨its, rv, ht, hz⟩ := I.tuple hq
  refine assign_Tuple_tuple (I.ok.hd hc) ht (by simp [hn, ← hl, rv.length]) hst fun h' hx => ?_
  have I1 : Inv X pins σ H { s with heap := h' } := I.kept (t' := s.toks) fun b o e => hx b o (Nat.ne_of_lt (Heap.lt_size e)) e
  exact h pins _ σ H xs _ Q I1 (by simpa using rv) hw
/-- o[i] = .. -/
noncomputable def gSub (to ti : TE) (t : TSet) : TG := fun v σ H Q => to σ H fun o H1 => ti σ H1 fun i H2 => t o i v H2 fun H3 => Q σ H3
theorem pg_sub {o i : Expr} {to ti : TE} {t : TSet} (ho : PE X o to) (hi : PE X i ti) (hs : PSet X t)
    (ha : ∀ v, assign (.Subscript o i pos) X.env v = (do
      let ov ← holding [v] (eval o X.env)
      let iv ← holding [v, ov] (eval i X.env)
      standAt pos
      holding [v, ov, iv] (setItem ov iv v)
      release [v, ov, iv] []) := by intro _; rfl) : PG X (.Subscript o i pos) (gSub to ti t) := by
  intro pins s σ H v u Q I r h
  rw [ha]
  (refine wpAny_bind (wpAny_holding (thn (ho pins s σ H _ I h) ?_)); rintro ov s1 ⟨x, H1, I1, r1, q1⟩)
  (refine wpAny_bind (wpAny_holding (thn (hi pins s1 σ H1 _ I1 q1) ?_)); rintro iv s2 ⟨y, H2, I2, r2, q2⟩)
  (refine wpAny_bind (wpAny_standAt (wpAny_bind (wpAny_holding (thn (hs pins s2 σ H2 x y v ov iv u _ I2 r1 r2 r q2) ?_)))); rintro _ s3 ⟨H3, I3, q3⟩)
  exact wpAny_release ⟨σ, H3, I3, q3⟩
/-- target = value -/
noncomputable def tAsg (te : TE) (g : TG) : TS := fun D σ H => te σ H fun x H1 => g x σ H1 D.nx
theorem ps_asg {tg e : Expr} {te : TE} {g : TG} (he : PE X e te) (hg : PG X tg g) (hs : swapsWithSole [tg] e pos.line X.env = pure false := by rfl) (hw : swappedStores [tg] e X.env = pure none := by rfl)
    (h1 : (assignEach [tg] X.env).map (·.2) = [assign tg X.env] := by rfl) : PS X (.Assign [tg] e pos) (tAsg te g) := by
  intro pins s σ H D I h
  (refine wpAny_Assign_stores (thn (he pins s σ H _ I h) ?_) hs hw; rintro v s1 ⟨x, H1, I1, r1, q1⟩)
  rw [h1]
  exact thn (hg pins s1 σ H1 x v _ I1 r1 q1) fun _ s2 q => q
/-- name = value -/
theorem ps_set {i : Nat} {x : Str} {e : Expr} {te : TE} {pos' : Pos} (hN : X.N.Nodup) (hi : X.N[i]? = some x) (hx : Loc X.env.scope x) (he : PE X e te) (hs : swapsWith e (some (.Name x pos')) pos.line X.env = pure false := by rfl) (hf : X.fn x = true ∨ X.env.scope.names.lookup x = some .local := by first | exact .inl rfl | exact .inr rfl | assumption) :
    PS X (.Assign [.Name x pos'] e pos) (tAsg te (gName i)) := by
  intro pins s σ H D I h
  (refine wpAny_Assign_Name (thn (he pins s σ H _ I h) ?_) hs; rintro v s1 ⟨y, H1, I1, r1, q1⟩)
  exact store_ok I1 hN hi hx r1 (fun s2 I2 => ⟨_, H1, I2, q1⟩) hf
/-- name op= e -/
noncomputable def tAug (i : Nat) (te : TE) (ti : TIp) : TS := fun D σ H => ∃ x, σ[i]? = some (some x) ∧ te σ H fun y H1 => ti x y H1 fun z H2 => D.nx (σ.set i (some z)) H2
theorem ps_aug {i : Nat} {x : Str} {e : Expr} {te : TE} {op : Operator} {ti : TIp} {pos' : Pos} (hN : X.N.Nodup) (hi : X.N[i]? = some x) (hx : Loc X.env.scope x) (he : PE X e te) (ho : PIp X op ti) (hf : X.fn x = true ∨ X.env.scope.names.lookup x = some .local := by first | exact .inl rfl | exact .inr rfl | assumption) :
    PS X (.AugAssign (.Name x pos') op e pos) (tAug i te ti) := by
  intro pins s σ H D I h
  obtain ⟨v, e1, h⟩ := h
  obtain ⟨m, hn, hl⟩ := I.loc
  have vis : Vis X.env.scope x := by rcases hx with k | k; exact .inl k; exact .inr (.inl k)
  obtain ⟨u, r, l⟩ := hl i x v hi e1 vis
  refine wpAny_AugAssign_Name ?_
  have go : wpAny (model X.prog X.w) X.A (eval e X.env) (fun w s₂ => wpAny (model X.prog X.w) X.A (inplaceOp op u w) (fun r s₃ => wpAny (model X.prog X.w) X.A (storeName X.env x r) (fun _ => SP X pins D .next) X.xe s₃) X.xe s₂) X.xe s := by
    (refine thn (he pins s σ H _ I h) ?_; rintro w s1 ⟨y, H1, I1, r1, q1⟩)
    (refine thn (ho pins s1 σ H1 v y u w _ I1 r r1 q1) ?_; rintro z s2 ⟨zv, H2, I2, r2, q2⟩)
    exact store_ok I2 hN hi hx r2 (fun s3 I3 => ⟨_, H2, I3, q2⟩) hf
  rcases l with ⟨hk, hm⟩ | ⟨hk, c, hc, hcell⟩
  · exact wpAny_loadName_local I.ok.kind hk hn hm go
  · rcases hk with hk | hk
    · exact wpAny_loadName_cell I.ok.kind hk hc hcell go
    · rcases hx with k | k
      · have : X.env.scope.names.lookup x = some .free := hk
        rw [k] at this; cases this
      · have : X.env.scope.names.lookup x = some .free := hk
        rw [k] at this; cases this
end

/-! ### while -/
section
variable {X : Cx} {pos : Pos}
/-- the invariant W with its measure -/
noncomputable def tWhile (c : TT) (tb : TS) : TS := fun D σ H => ∃ W : Nat → St → Hp → Prop, (∃ m, W m σ H) ∧ ∀ m σ H, W m σ H →
  c σ H fun b H1 => if b = true then ∃ N : St → Hp → Prop, (∀ σ' H', N σ' H' → ∃ m', m' < m ∧ W m' σ' H') ∧ tb { D with nx := N, ct := N, bk := D.nx } σ H1 else D.nx σ H1
theorem ps_while {c : Expr} {body : List Stmt} {tc : TT} {tb : TS} (hp : PassesOwn (model X.prog X.w) X.A X.env X.xe) (hc : PT X c tc) (hb : PSs X body tb) : PS X (.While c body [] pos) (tWhile tc tb) := by
  intro pins s σ H D I h
  obtain ⟨W, ⟨m0, w0⟩, turn⟩ := h
  refine wpAny_While (codeAny_whileLoop (fun n s' => ∃ σ' H', Inv X pins σ' H' s' ∧ W n σ' H') ?_ m0 ⟨σ, H, I, w0⟩)
  rintro n s1 ⟨σ1, H1, I1, w1⟩
  (refine wpAny_passesOwn hp (thn (hc pins s1 σ1 H1 _ I1 (turn n σ1 H1 w1)) ?_); rintro b s2 ⟨H2, I2, q2⟩)
  cases b with
  | true =>
    obtain ⟨N, hN, q2⟩ := q2
    rw [if_pos rfl]
    refine wpAny_passesOwn hp (thn (hb pins s2 σ1 H2 _ I2 q2) fun f s3 q3 => ?_)
    cases f with
    | next =>
      obtain ⟨σ3, H3, I3, n3⟩ := q3
      obtain ⟨m', hm, w3⟩ := hN σ3 H3 n3
      exact ⟨m', hm, σ3, H3, I3, w3⟩
    | cont =>
      obtain ⟨σ3, H3, I3, n3⟩ := q3
      obtain ⟨m', hm, w3⟩ := hN σ3 H3 n3
      exact ⟨m', hm, σ3, H3, I3, w3⟩
    | brk => exact q3
    | ret v => exact q3
  | false =>
    rw [if_neg Bool.false_ne_true]
    exact wpAny_execs_nil ⟨σ1, H2, I2, q2⟩
end

/-! ### what a loop or a comprehension walks -/
/-- at turn i: it yields x (the heap may grow), or it stops -/
structure It where
  go : Nat → Hp → Prop
  yld : Nat → Hp → V → Hp → Prop
  stop : Nat → Hp → Prop
/-- the iterator's own objects may turn: they are not the frame's, not pinned, younger than the entry (or a comprehension's own) -/
noncomputable def FpOk (X : Cx) (pins : List (Addr × Obj)) (H : Hp) (b : Addr) : Prop :=
  H b = none ∧ b ≠ X.env.locals ∧ b ∉ X.fs ∧ (b ∈ X.ex ∨ X.s₀.heap.objs.size ≤ b) ∧ (∀ x c, X.env.cells.lookup x = some c → c ≠ b) ∧ ∀ p ∈ X.pn ++ pins, p.1 ≠ b
theorem Inv.fpOk {X : Cx} {pins : List (Addr × Obj)} {σ : St} {H H' : Hp} {s : Shared} {b : Addr} (I : Inv X pins σ H s) (hb : s.heap.objs.size ≤ b) (hn : H' b = none) : FpOk X pins H' b := by
  refine ⟨hn, Nat.ne_of_gt (Nat.lt_of_lt_of_le I.lt hb), I.nofs hb, .inr (Nat.le_trans I.sz hb), fun x c e z => ?_, fun p hp z => ?_⟩
  · obtain ⟨v, q⟩ := I.cell x c e
    exact absurd (Nat.lt_of_lt_of_le q.lt (by rw [z]; exact hb)) (Nat.lt_irrefl _)
  · exact absurd (Nat.lt_of_lt_of_le (Heap.lt_size (I.pin p hp).1) (by rw [z]; exact hb)) (Nat.lt_irrefl _)
structure Turn (P : Program) (w : World) (K : PySem.W.Frag) (tg : Expr) (J : It) (fp : List Addr) (it : Addr) (tn : Nat → Heap → Prop) : Prop where
  mem : it ∈ fp
  obj : ∀ i h, tn i h → ∀ b ∈ fp, ∃ o, h.get? b = some o ∧ ∀ v, o.data ≠ .cell v
  keep : ∀ i h h', tn i h → (∀ b ∈ fp, ∀ o, h.get? b = some o → h'.get? b = some o) → tn i h'
  item : ∀ (X : Cx), X.prog = P → X.w = w → X.K = K → X.calm = true → ∀ (i : Nat) (pins : List (Addr × Obj)) (s : Shared) (σ : St) (H : Hp) (E : Value → Shared → Prop), Inv X pins σ H s → (∀ b ∈ fp, FpOk X pins H b) → tn i s.heap → J.go i H →
    wpAny (model P w) X.A (pyNext (.ref it)) (fun r s1 => ∃ u, r = some u ∧
      wpAny (model P w) X.A (letOwnedTupleGo tg (.ref it) u) (fun _ s2 => ∃ x H', Inv X pins σ H' s2 ∧ RelV x u ∧ J.yld i H x H' ∧ tn (i + 1) s2.heap ∧ ∀ b ∈ fp, H' b = none) E s1) E s
  done : ∀ (X : Cx), X.prog = P → X.w = w → X.K = K → X.calm = true → ∀ (i : Nat) (pins : List (Addr × Obj)) (s : Shared) (σ : St) (H : Hp) (E : Value → Shared → Prop), Inv X pins σ H s → (∀ b ∈ fp, FpOk X pins H b) → tn i s.heap → J.stop i H →
    wpAny (model P w) X.A (pyNext (.ref it)) (fun r s1 => r = none ∧ Inv X pins σ H s1) E s
  self : ∀ (A : Around) (i : Nat) (s : Shared) (Q : Value → Shared → Prop) (E : Value → Shared → Prop), tn i s.heap → Q (.ref it) s → wpAny (model P w) A (pyIter (.ref it)) Q E s
noncomputable abbrev TI := St → Hp → (It → Hp → Prop) → Prop
/-- an iterator has come -/
noncomputable def PIE (X : Cx) (pins : List (Addr × Obj)) (σ : St) (tg : Expr) (R : It → Hp → Prop) (itv : Value) (s2 : Shared) : Prop :=
  ∃ (it : Addr) (fp : List Addr) (tn : Nat → Heap → Prop) (J : It) (H' : Hp), itv = .ref it ∧ Inv X pins σ H' s2 ∧ Turn X.prog X.w X.K tg J fp it tn ∧ tn 0 s2.heap ∧ (∀ b ∈ fp, FpOk X pins H' b) ∧ R J H'
noncomputable def PI (X : Cx) (tg iter : Expr) (wi : TI) : Prop :=
  ∀ (pins : List (Addr × Obj)) (s : Shared) (σ : St) (H : Hp) (R : It → Hp → Prop), Inv X pins σ H s → wi σ H R →
    wpAny (model X.prog X.w) X.A (eval iter X.env) (fun v s1 => wpAny (model X.prog X.w) X.A (pyIter v) (PIE X pins σ tg R) X.xe s1) X.xe s

/-- the step ahead of the store is nothing for an iterator that keeps no tuple -/
theorem go_of {M : Model} {A : Around} {E : Value → Shared → Prop} {s : Shared} {tg : Expr} {it : Addr} {u : Value} {o : Obj} {n : String} {vs : Array Value} {Q : Unit → Shared → Prop} (ho : s.heap.get? it = some o) (hc : o.cls = .type n) (hd : o.data = .fields vs)
    (hn : ["enumerate", "zip", "dict_itemiterator", "dict_reverseitemiterator", "odict_iterator", "itertools.zip_longest", "itertools.pairwise"].contains n = false) (hQ : Q () s) : wpAny M A (letOwnedTupleGo tg (.ref it) u) Q E s := by
  unfold letOwnedTupleGo
  cases tg <;> first
    | exact wpAny_pure hQ
    | (cases u <;> first
        | exact wpAny_pure hQ
        | (refine wpAny_bind (wpAny_load ho ?_)
           rw [hc, hd]
           show wpAny M A (if (["enumerate", "zip", "dict_itemiterator", "dict_reverseitemiterator", "odict_iterator", "itertools.zip_longest", "itertools.pairwise"].contains n && vs[0]? == some (rawInt _)) = true then _ else _) Q E s
           rw [if_neg (by intro h; rw [hn, Bool.false_and] at h; cases h)]
           exact wpAny_pure hQ))

/-- the list at a, as it stands at each turn (a loop may append to it) -/
noncomputable def Itl (K : PySem.W.Frag) (a : Addr) : It :=
  ⟨fun i H => ∃ xs x, SqL K H a xs ∧ xs[i]? = some x, fun i H x H' => H' = H ∧ ∀ xs, SqL K H a xs → xs[i]? = some x, fun i H => ∃ xs, SqL K H a xs ∧ xs.length ≤ i⟩
noncomputable def Itt (K : PySem.W.Frag) (a : Addr) : It :=
  ⟨fun i H => ∃ xs x, SqT K H a xs ∧ xs[i]? = some x, fun i H x H' => H' = H ∧ ∀ xs, SqT K H a xs → xs[i]? = some x, fun i H => ∃ xs, SqT K H a xs ∧ xs.length ≤ i⟩
/-- lo, lo + 1, .. (n of them) -/
noncomputable def Itr (lo : Int) (n : Nat) : It := ⟨fun i _ => i < n, fun i H x H' => H' = H ∧ x = .int (lo + i), fun i _ => n ≤ i⟩
theorem turn_list {P : Program} {w : World} {K : PySem.W.Frag} {tg : Expr} (a it : Addr) : Turn P w K tg (Itl K a) [it] it (fun i h => h.IsListIter it a i) where
  mem := by simp
  obj := fun i h st b hb => by
    have e : b = it := by simpa using hb
    subst e
    obtain ⟨o, e, c, d⟩ := st
    exact ⟨o, e, fun v z => by rw [d] at z; cases z⟩
  keep := fun i h h' st k => st.at fun o e => k it (by simp) o e
  item := by
    intro X hP hw hK hc i pins s σ H E I hf st hg
    subst hP hw hK
    obtain ⟨xs, x, hq, hx⟩ := hg
    obtain ⟨its, rv, p, hz⟩ := I.list hq
    obtain ⟨u, hu, ru⟩ := rv.get hx
    obtain ⟨f0, f1, f2, f3, f4, f5⟩ := hf it (by simp)
    refine wpAny_pyNext_list_item st p.isList (x := u) (by simpa using hu) fun h' st' sb => ?_
    have I1 : Inv X pins σ H { s with heap := h' } := I.turned (t' := s.toks) (fun b o hb e => (sb.2 b hb).trans e) f0 f1 f3 f4 f5
    obtain ⟨o, e, c, d⟩ := id st'
    exact ⟨u, rfl, go_of (s := { s with heap := h' }) e c d (by decide) ⟨x, H, I1, ru, ⟨rfl, fun ys hy => by rw [I.list_inj hy hq]; exact hx⟩, st', fun b hb => (hf b hb).1⟩⟩
  done := by
    intro X hP hw hK hc i pins s σ H E I hf st hg
    subst hP hw hK
    obtain ⟨xs, hq, hx⟩ := hg
    obtain ⟨its, rv, p, hz⟩ := I.list hq
    obtain ⟨f0, f1, f2, f3, f4, f5⟩ := hf it (by simp)
    have hl := rv.length
    exact wpAny_pyNext_list_end (I.ok.hd hc) st p.isList (by simp; omega) fun h' eb => ⟨rfl, I.turned (t' := s.toks) (fun b o hb e => eb b o hb e) f0 f1 f3 f4 f5⟩
  self := fun _ _ _ _ _ st h => wpAny_pyIter_listiter st h
theorem turn_tuple {P : Program} {w : World} {K : PySem.W.Frag} {tg : Expr} (a it : Addr) : Turn P w K tg (Itt K a) [it] it (fun i h => h.IsTupleIter it a i) where
  mem := by simp
  obj := fun i h st b hb => by
    have e : b = it := by simpa using hb
    subst e
    obtain ⟨o, e, c, d⟩ := st
    exact ⟨o, e, fun v z => by rw [d] at z; cases z⟩
  keep := fun i h h' st k => st.at fun o e => k it (by simp) o e
  item := by
    intro X hP hw hK hc i pins s σ H E I hf st hg
    subst hP hw hK
    obtain ⟨xs, x, hq, hx⟩ := hg
    obtain ⟨its, rv, p, hz⟩ := I.tuple hq
    obtain ⟨u, hu, ru⟩ := rv.get hx
    obtain ⟨f0, f1, f2, f3, f4, f5⟩ := hf it (by simp)
    refine wpAny_pyNext_tuple_item st (show s.heap.IsTuple a its.toArray from p) (x := u) (by simpa using hu) fun h' st' sb => ?_
    have I1 : Inv X pins σ H { s with heap := h' } := I.turned (t' := s.toks) (fun b o hb e => (sb.2 b hb).trans e) f0 f1 f3 f4 f5
    obtain ⟨o, e, c, d⟩ := id st'
    exact ⟨u, rfl, go_of (s := { s with heap := h' }) e c d (by decide) ⟨x, H, I1, ru, ⟨rfl, fun ys hy => by rw [I.tuple_inj hy hq]; exact hx⟩, st', fun b hb => (hf b hb).1⟩⟩
  done := by
    intro X hP hw hK hc i pins s σ H E I hf st hg
    subst hP hw hK
    obtain ⟨xs, hq, hx⟩ := hg
    obtain ⟨its, rv, p, hz⟩ := I.tuple hq
    obtain ⟨f0, f1, f2, f3, f4, f5⟩ := hf it (by simp)
    have hl := rv.length
    exact wpAny_pyNext_tuple_end (I.ok.hd hc) st (show s.heap.IsTuple a its.toArray from p) (by simp; omega) fun h' eb => ⟨rfl, I.turned (t' := s.toks) (fun b o hb e => eb b o hb e) f0 f1 f3 f4 f5⟩
  self := fun _ _ _ _ _ st h => wpAny_pyIter_tupleiter st h
theorem turn_range {P : Program} {w : World} {K : PySem.W.Frag} {tg : Expr} (it : Addr) (lo : Int) (n : Nat) : Turn P w K tg (Itr lo n) [it] it (fun i h => IsRangeIter h it (lo + (i : Nat) * 1) ((n : Int) - (i : Nat)) 1) where
  mem := by simp
  obj := fun i h st b hb => by
    have e : b = it := by simpa using hb
    subst e
    exact ⟨_, st, fun v z => by
      have z' : Data.fields _ = Data.cell v := z
      cases z'⟩
  keep := fun i h h' st k => k it (by simp) _ st
  item := by
    intro X hP hw hK hc i pins s σ H E I hf st hg
    subst hP hw hK
    obtain ⟨f0, f1, f2, f3, f4, f5⟩ := hf it (by simp)
    have W := Walks.range (prog := X.prog) (w := X.w) (I.ok.hd hc) it lo 1 n
    refine W.item i s _ _ hg st fun v h' tk hv st' kk => ?_
    obtain ⟨t, rfl⟩ := hv
    have I1 : Inv X pins σ H { s with heap := h', toks := tk } := I.turned (fun b o hb e => kk b o (by simpa using hb) e) f0 f1 f3 f4 f5
    refine ⟨_, rfl, go_of (s := { s with heap := h', toks := tk }) (n := "range_iterator") st' rfl rfl (by decide) ⟨.int (lo + i), H, I1, ⟨t, ?_⟩, ⟨rfl, rfl⟩, st', fun b hb => (hf b hb).1⟩⟩
    rw [Int.mul_one]
  done := by
    intro X hP hw hK hc i pins s σ H E I hf st hg
    subst hP hw hK
    obtain ⟨f0, f1, f2, f3, f4, f5⟩ := hf it (by simp)
    exact wpAny_pyNext_range_end (I.ok.hd hc) st (by have : n ≤ i := hg; omega) fun h' eb => ⟨rfl, I.turned (t' := s.toks) (fun b o hb e => eb b o hb e) f0 f1 f3 f4 f5⟩
  self := fun _ _ _ _ _ st h => wpAny_pyIter_rangeiter st h
end L2

namespace L2
open PySem PySem.Spec PyProof.Rows
section
variable {X : Cx} {tg : Expr}
/-- a range object just made, walked -/
theorem range_it {pins : List (Addr × Obj)} {σ : St} {H : Hp} {s : Shared} {R : It → Hp → Prop} {E : Value → Shared → Prop} {lo hi : Int} {t u v : Tok} {tk : Nat} (I : Inv X pins σ H s) (h1 : -(2 ^ 62) ≤ lo) (h2 : lo < 2 ^ 62) (h3 : -(2 ^ 62) ≤ hi) (h4 : hi < 2 ^ 62)
    (q : R (Itr lo (hi - lo).toNat) H) : wpAny (model X.prog X.w) X.A (pyIter (.ref s.heap.objs.size)) (PIE X pins σ tg R) E { s with heap := s.heap.push { cls := .type "range", data := .fields #[.int lo t, .int hi u, .int 1 v] }, toks := tk } := by
  refine wpAny_pyIter_range (IsRange.new ..) (small_one h1 h2 h3 h4) ?_
  have I1 : Inv X pins σ H { s with heap := s.heap.push { cls := .type "range", data := .fields #[.int lo t, .int hi u, .int 1 v] }, toks := tk } := I.kept fun b o e => Heap.get?_push_of_some _ e
  refine ⟨(s.heap.push { cls := .type "range", data := .fields #[.int lo t, .int hi u, .int 1 v] }).objs.size, [(s.heap.push { cls := .type "range", data := .fields #[.int lo t, .int hi u, .int 1 v] }).objs.size], _, _, H, rfl,
    I1.kept (t' := tk) fun b o e => Heap.get?_push_of_some _ e, turn_range _ lo (hi - lo).toNat, ?_, fun b hb => ?_, q⟩
  · have e1 : lo + ((0 : Nat) : Int) * 1 = lo := by simp
    have e2 : (((hi - lo).toNat : Nat) : Int) - ((0 : Nat) : Int) = Builtin.Range.rangeSize lo hi 1 := by rw [rangeSize_one]; split <;> omega
    show IsRangeIter _ _ (lo + ((0 : Nat) : Int) * 1) ((((hi - lo).toNat : Nat) : Int) - ((0 : Nat) : Int)) 1
    rw [e1, e2]
    exact Heap.get?_push_size _ rfl
  · have e : b = (s.heap.push { cls := .type "range", data := .fields #[.int lo t, .int hi u, .int 1 v] }).objs.size := by simpa using hb
    subst e
    exact I1.fpOk (Nat.le_refl _) (I1.hok.fresh (Nat.le_refl _))
noncomputable def iRng1 (ta : TA) : TI := fun σ H R => ta σ H fun vs H1 => ∃ j : Int, vs = [.int j] ∧ -(2 ^ 62) ≤ j ∧ j < 2 ^ 62 ∧ R (Itr 0 j.toNat) H1
theorem pi_range1 {a : Expr} {ta : TA} {p pos : Pos} (hg : Gl X "range") (hm : X.mg "range" = none) (ha : PA X [a] ta) (hs : starEach [a] X.env = [(false, eval a X.env)] := by rfl) : PI X tg (.Call (.Name "range" p) [a] [] pos) (iRng1 ta) := by
  intro pins s σ H R I h
  (refine Call_ (ld_blt I hg hm boot_range (PyProof.Rows.callWith_type1 (thn (ha pos pins s σ H _ I h) ?_) hs rfl)); rintro us s1 ⟨vs, H1, I1, r1, q1⟩)
  obtain ⟨j, e, q1, q2, q⟩ := q1
  subst e
  cases r1 with
  | cons r rr =>
    cases rr
    obtain ⟨t, rfl⟩ := r
    exact call_range_1 (range_it I1 (by omega) (by omega) q1 q2 (by simpa using q))

/-! ### for -/
/-- W: the invariant by the turn and a measure; N: what the body is to reach -/
noncomputable def tFor (wi : TI) (g : TG) (tb : TS) : TS := fun D σ H => wi σ H fun J H1 => ∃ W : Nat → Nat → St → Hp → Prop, (∃ m, W 0 m σ H1) ∧ ∀ i m σ H, W i m σ H →
  (J.stop i H ∧ D.nx σ H) ∨ (J.go i H ∧ ∃ N : St → Hp → Prop, (∀ σ' H', N σ' H' → ∃ m', m' < m ∧ W (i + 1) m' σ' H') ∧ ∀ x H', J.yld i H x H' → g x σ H' fun σ2 H2 => tb { D with nx := N, ct := N, bk := D.nx } σ2 H2)
/-- the records at fp as they stand -/
noncomputable def pinsAt (fp : List Addr) (h : Heap) : List (Addr × Obj) := fp.filterMap fun b => (h.get? b).map fun o => (b, o)
theorem mem_pinsAt {fp : List Addr} {h : Heap} {b : Addr} {o : Obj} (hb : b ∈ fp) (e : h.get? b = some o) : (b, o) ∈ pinsAt fp h := List.mem_filterMap.mpr ⟨b, hb, by rw [e]; rfl⟩
theorem of_pinsAt {fp : List Addr} {h : Heap} {p : Addr × Obj} (hp : p ∈ pinsAt fp h) : p.1 ∈ fp ∧ h.get? p.1 = some p.2 := by
  obtain ⟨b, hb, e⟩ := List.mem_filterMap.mp hp
  cases q : h.get? b with
  | none => rw [q] at e; cases e
  | some o =>
    rw [q] at e
    have e' : (b, o) = p := Option.some.inj e
    subst e'
    exact ⟨hb, q⟩
theorem Inv.pinned {pins : List (Addr × Obj)} {σ : St} {H : Hp} {s : Shared} {fp : List Addr} (I : Inv X pins σ H s) (hf : ∀ b ∈ fp, FpOk X pins H b) (ho : ∀ b ∈ fp, ∃ o, s.heap.get? b = some o ∧ ∀ v, o.data ≠ .cell v) : Inv X (pins ++ pinsAt fp s.heap) σ H s :=
  I.pins_of fun p hp => (List.mem_append.mp hp).elim (fun z => I.pin p (List.mem_append_right _ z)) fun z => by
    obtain ⟨hb, e⟩ := of_pinsAt z
    obtain ⟨f0, f1, f2, _⟩ := hf p.1 hb
    obtain ⟨o, e', d⟩ := ho p.1 hb
    rw [e] at e'; cases e'
    exact ⟨e, f0, f1, f2, d⟩
theorem Inv.unpinned {pins pl : List (Addr × Obj)} {σ : St} {H : Hp} {s : Shared} (I : Inv X (pins ++ pl) σ H s) : Inv X pins σ H s := I.pins_of fun p hp => I.pin p (List.mem_append_right _ (List.mem_append_left _ hp))
theorem ps_for {iter : Expr} {body : List Stmt} {wi : TI} {g : TG} {tb : TS} {pos : Pos} (hp : PassesOwn (model X.prog X.w) X.A X.env X.xe) (hc : X.calm = true) (hi : PI X tg iter wi) (hg : PG X tg g) (hb : PSs X body tb)
    (hs : ∀ x, foldedSetIterable iter X.env x = pure x := by intro _; rfl) : PS X (.For tg iter body [] pos) (tFor wi g tb) := by
  intro pins s σ H D I h
  refine wpAny_For (thn (hi pins s σ H _ I h) fun v s1 h1 => thn h1 fun itv s2 h2 => ?_) hs
  obtain ⟨it, fp, tn, J, H2, e, I2, T, st2, f2, W, ⟨m0, w0⟩, turn⟩ := h2
  subst e
  -- what stays true of the iterator's objects through the loop
  have stat : ∀ {H' : Hp}, (∀ b ∈ fp, H' b = none) → ∀ b ∈ fp, FpOk X pins H' b := fun hn b hb => ⟨hn b hb, (f2 b hb).2⟩
  refine codeAny_forLoop_any (fun n s' => ∃ i σ' H', Inv X pins σ' H' s' ∧ tn i s'.heap ∧ (∀ b ∈ fp, H' b = none) ∧ W i n σ' H') ?_ m0 ⟨0, σ, H2, I2, st2, fun b hb => (f2 b hb).1, w0⟩
  rintro n s3 ⟨i, σ3, H3, I3, st3, fr3, w3⟩
  rcases turn i n σ3 H3 w3 with ⟨stop, qn⟩ | ⟨go, N, hN, step⟩
  · (refine wpAny_passesOwn hp (thn (T.done X rfl rfl rfl hc i pins s3 σ3 H3 X.xe I3 (stat fr3) st3 stop) ?_); rintro r s4 ⟨hr, I4⟩)
    subst hr
    exact wpAny_execs_nil ⟨σ3, H3, I4, qn⟩
  · (refine wpAny_passesOwn hp (thn (T.item X rfl rfl rfl hc i pins s3 σ3 H3 X.xe I3 (stat fr3) st3 go) ?_); rintro r s4 ⟨u, hr, h4⟩)
    subst hr
    (refine wpAny_passesOwn hp (thn h4 ?_); rintro _ s5 ⟨x, H5, I5, r5, y5, st5, fr5⟩)
    have I5' := I5.pinned (stat fr5) (T.obj _ _ st5)
    (refine wpAny_passesOwn hp (thn (hg _ s5 σ3 H5 x u _ I5' r5 (step x H5 y5)) ?_); rintro _ s6 ⟨σ6, H6, I6, q6⟩)
    refine wpAny_passesOwn hp (thn (hb _ s6 σ6 H6 _ I6 q6) fun f s7 q7 => ?_)
    have again : ∀ {σ7 : St} {H7 : Hp}, Inv X (pins ++ pinsAt fp s5.heap) σ7 H7 s7 → N σ7 H7 → ∃ m, m < n ∧ ∃ i σ' H', Inv X pins σ' H' s7 ∧ tn i s7.heap ∧ (∀ b ∈ fp, H' b = none) ∧ W i m σ' H' := fun {σ7 H7} I7 n7 => by
      obtain ⟨m', hm, w7⟩ := hN σ7 H7 n7
      refine ⟨m', hm, i + 1, σ7, H7, I7.unpinned, T.keep _ _ _ st5 fun b hb o e => (I7.pin (b, o) (List.mem_append_right _ (List.mem_append_right _ (mem_pinsAt hb e)))).1, fun b hb => ?_, w7⟩
      obtain ⟨o, e, d⟩ := T.obj _ _ st5 b hb
      exact (I7.pin (b, o) (List.mem_append_right _ (List.mem_append_right _ (mem_pinsAt hb e)))).2.1
    cases f with
    | next => obtain ⟨σ7, H7, I7, n7⟩ := q7; exact again I7 n7
    | cont => obtain ⟨σ7, H7, I7, n7⟩ := q7; exact again I7 n7
    | brk => obtain ⟨σ7, H7, I7, q7⟩ := q7; exact ⟨σ7, H7, I7.unpinned, q7⟩
    | ret v => obtain ⟨x7, σ7, H7, I7, r7, q7⟩ := q7; exact ⟨x7, σ7, H7, I7.unpinned, r7, q7⟩
end

/-! ### the forms one uses -/
end L2

namespace L2
open PySem PySem.Spec PyProof.Rows

noncomputable abbrev R2 := V → V → Hp → VK → Prop
/-- a two-place operation on values: f is binaryOp op, inplaceOp op or compareOp op -/
noncomputable def OpR (X : Cx) (f : Value → Value → Sem Value) (r : R2) : Prop :=
  ∀ (pins : List (Addr × Obj)) (s : Shared) (σ : St) (H : Hp) (x y : V) (v u : Value) (Q : VK), Inv X pins σ H s → RelV x v → RelV y u → r x y H Q →
    wpAny (model X.prog X.w) X.A (f v u) (EP X pins σ Q) X.xe s
/-- a one-place operation -/
noncomputable def UnR (X : Cx) (f : Value → Sem Value) (r : V → Hp → VK → Prop) : Prop :=
  ∀ (pins : List (Addr × Obj)) (s : Shared) (σ : St) (H : Hp) (x : V) (v : Value) (Q : VK), Inv X pins σ H s → RelV x v → r x H Q →
    wpAny (model X.prog X.w) X.A (f v) (EP X pins σ Q) X.xe s
/-- a call of a value that is known (a builtin, a type) with values -/
noncomputable def CallR (X : Cx) (f : Value) (r : List V → Hp → VK → Prop) : Prop :=
  ∀ (pins : List (Addr × Obj)) (s : Shared) (σ : St) (H : Hp) (xs : List V) (us : List Value) (Q : VK), Inv X pins σ H s → Vals xs us → r xs H Q →
    wpAny (model X.prog X.w) X.A (call f us) (EP X pins σ Q) X.xe s

noncomputable def tOp (r : R2) (ta tb : TE) : TE := fun σ H Q => ta σ H fun x H1 => tb σ H1 fun y H2 => r x y H2 Q
noncomputable def tUn (r : V → Hp → VK → Prop) (ta : TE) : TE := fun σ H Q => ta σ H fun x H1 => r x H1 Q
/-- ints in, under C, and a value out -/
noncomputable def rI (C : Int → Int → Prop) (g : Int → Int → V) : R2 := fun x y H Q => ∃ i j, x = .int i ∧ y = .int j ∧ C i j ∧ Q (g i j) H
noncomputable def rI0 (g : Int → Int → V) : R2 := fun x y H Q => ∃ i j, x = .int i ∧ y = .int j ∧ Q (g i j) H
noncomputable def rU (g : Int → V) : V → Hp → VK → Prop := fun x H Q => ∃ i, x = .int i ∧ Q (g i) H

section
variable {X : Cx} {a b c : Expr} {ta tb tc : TE} {pos : Pos}

theorem binT (ha : PE X a ta) (hb : PE X b tb) {pins : List (Addr × Obj)} {s : Shared} {σ : St} {H : Hp} {R : V → V → Hp → Prop} (I : Inv X pins σ H s)
    (h : ta σ H fun x H1 => tb σ H1 fun y H2 => R x y H2) {Q : Value → Shared → Prop} {f : Value → Value → Sem Value}
    (hf : ∀ v u s2 x y H2, Inv X pins σ H2 s2 → RelV x v → RelV y u → R x y H2 → wpAny (model X.prog X.w) X.A (f v u) Q X.xe s2) :
    wpAny (model X.prog X.w) X.A (eval a X.env) (fun v s₁ => wpAny (model X.prog X.w) X.A (eval b X.env) (fun u s₂ => wpAny (model X.prog X.w) X.A (f v u) Q X.xe s₂) X.xe s₁) X.xe s := by
  (refine thn (ha pins s σ H _ I h) ?_; rintro v s1 ⟨x, H1, I1, r1, q1⟩)
  (refine thn (hb pins s1 σ H1 _ I1 q1) ?_; rintro u s2 ⟨y, H2, I2, r2, q2⟩)
  exact hf v u s2 x y H2 I2 r1 r2 q2

theorem pe_op {op : Operator} {r : R2} (ho : OpR X (binaryOp op) r) (ha : PE X a ta) (hb : PE X b tb) : PE X (.BinOp a op b pos) (tOp r ta tb) := by
  intro pins s σ H Q I h
  exact wpAny_BinOp (binT ha hb I h fun v u s2 x y H2 I2 rx ry q => ho pins s2 σ H2 x y v u Q I2 rx ry q)
theorem pe_un {op : UnaryOp} {r : V → Hp → VK → Prop} (ho : UnR X (unaryOp op) r) (ha : PE X a ta) : PE X (.UnaryOp op a pos) (tUn r ta) := by
  intro pins s σ H Q I h
  (refine UnaryOp_ (thn (ha pins s σ H _ I h) ?_); rintro v s1 ⟨x, H1, I1, r1, q1⟩; exact ho pins s1 σ H1 x v Q I1 r1 q1)

/-! ### ints -/
theorem opI {f : Value → Value → Sem Value} {C : Int → Int → Prop} {g : Int → Int → Int}
    (rule : ∀ (i j : Int) (t u : Tok) (s : Shared) (Q : Value → Shared → Prop) (E : Value → Shared → Prop), C i j → Q (.int (g i j) s.toks) { s with toks := s.toks + 1 } → wpAny (model X.prog X.w) X.A (f (.int i t) (.int j u)) Q E s) :
    OpR X f (rI C fun i j => .int (g i j)) := by
  intro pins s σ H x y v u Q I rx ry h
  obtain ⟨i, j, rfl, rfl, hc, q⟩ := h
  obtain ⟨t, rfl⟩ := rx
  obtain ⟨t', rfl⟩ := ry
  exact rule i j t t' s _ _ hc ⟨.int (g i j), H, I.tok _, ⟨_, rfl⟩, q⟩
theorem opI0 {f : Value → Value → Sem Value} {g : Int → Int → Int}
    (rule : ∀ (i j : Int) (t u : Tok) (s : Shared) (Q : Value → Shared → Prop) (E : Value → Shared → Prop), Q (.int (g i j) s.toks) { s with toks := s.toks + 1 } → wpAny (model X.prog X.w) X.A (f (.int i t) (.int j u)) Q E s) :
    OpR X f (rI0 fun i j => .int (g i j)) := by
  intro pins s σ H x y v u Q I rx ry h
  obtain ⟨i, j, rfl, rfl, q⟩ := h
  obtain ⟨t, rfl⟩ := rx
  obtain ⟨t', rfl⟩ := ry
  exact rule i j t t' s _ _ ⟨.int (g i j), H, I.tok _, ⟨_, rfl⟩, q⟩
theorem opB0 {f : Value → Value → Sem Value} {g : Int → Int → Bool}
    (rule : ∀ (i j : Int) (t u : Tok) (s : Shared) (Q : Value → Shared → Prop) (E : Value → Shared → Prop), Q (.bool (g i j)) s → wpAny (model X.prog X.w) X.A (f (.int i t) (.int j u)) Q E s) :
    OpR X f (rI0 fun i j => .bl (g i j)) := by
  intro pins s σ H x y v u Q I rx ry h
  obtain ⟨i, j, rfl, rfl, q⟩ := h
  obtain ⟨t, rfl⟩ := rx
  obtain ⟨t', rfl⟩ := ry
  exact rule i j t t' s _ _ ⟨.bl (g i j), H, I, rfl, q⟩

noncomputable def CDiv (i j : Int) : Prop := 0 < j ∧ j < 1073741824
noncomputable def CPow (i j : Int) : Prop := 0 ≤ j ∧ j ≤ 1000000 ∧ i.natAbs < 2 ^ 64
noncomputable def CMul (i j : Int) : Prop := (-(2 ^ 64) < i ∧ i < 2 ^ 64) ∨ (-(2 ^ 64) < j ∧ j < 2 ^ 64)
theorem CMul.ok {i j : Int} (h : CMul i j) : IntMulOk i j := by
  rcases h with ⟨h1, h2⟩ | ⟨h1, h2⟩
  · exact .of_left (intBits_le_64 h1 h2)
  · exact .of_right (intBits_le_64 h1 h2)
theorem two_pow_nn (k : Nat) : (0 : Int) ≤ 2 ^ k := by
  rw [two_pow_cast]
  exact Int.natCast_nonneg _

theorem op_add : OpR X (binaryOp .Add) (rI0 fun i j => .int (i + j)) := opI0 fun _ _ _ _ _ _ _ q => add_int q
theorem op_sub : OpR X (binaryOp .Sub) (rI0 fun i j => .int (i - j)) := opI0 fun _ _ _ _ _ _ _ q => sub_int q
theorem op_mul : OpR X (binaryOp .Mult) (rI CMul fun i j => .int (i * j)) := opI fun _ _ _ _ _ _ _ hc q => mul_int q hc.ok
/-- // by a positive divisor -/
theorem op_fdiv : OpR X (binaryOp .FloorDiv) (rI CDiv fun i j => .int (i / j)) := opI fun i j _ _ _ _ _ hc q => by
  have h1 : (0 : Int) < j := hc.1
  have h2 : j < 1073741824 := hc.2
  exact floordiv_int (by omega) (by rw [Int.fdiv_eq_ediv_of_nonneg i (by omega)]; exact q) (.inl (PyProof.noPylong_small (by omega)))
/-- % by a positive divisor of any size -/
theorem op_mod : OpR X (binaryOp .Mod) (rI (fun _ j => 0 < j) fun i j => .int (i % j)) := opI fun i j _ _ _ _ _ hc q => by
  have h1 : (0 : Int) < j := hc
  exact mod_int' (by omega) (by rw [Int.fmod_eq_emod_of_nonneg i (by omega)]; exact q)
theorem op_pow : OpR X (binaryOp .Pow) (rI CPow fun i j => .int (i ^ j.toNat)) := opI fun _ _ _ _ _ _ _ hc q => pow_int_small hc.1 hc.2.1 hc.2.2 q
theorem op_shl : OpR X (binaryOp .LShift) (rI CPow fun i j => .int (i * 2 ^ j.toNat)) := opI fun _ _ _ _ _ _ _ hc q => lshift_int_small hc.1 hc.2.1 hc.2.2 q
theorem op_shr : OpR X (binaryOp .RShift) (rI (fun _ j => 0 ≤ j) fun i j => .int (i / 2 ^ j.toNat)) := opI fun i j _ _ _ _ _ hc q =>
  rshift_int hc (by rw [Int.fdiv_eq_ediv_of_nonneg i (two_pow_nn _)]; exact q)
theorem op_and : OpR X (binaryOp .BitAnd) (rI0 fun i j => .int (Builtin.bitAnd i j)) := opI0 fun _ _ _ _ _ _ _ q => and_int q
theorem op_xor : OpR X (binaryOp .BitXor) (rI0 fun i j => .int (Builtin.bitXor i j)) := opI0 fun _ _ _ _ _ _ _ q => xor_int q

theorem iop_add : OpR X (inplaceOp .Add) (rI0 fun i j => .int (i + j)) := opI0 fun _ _ _ _ _ _ _ q => iadd_int q
theorem iop_sub : OpR X (inplaceOp .Sub) (rI0 fun i j => .int (i - j)) := opI0 fun _ _ _ _ _ _ _ q => isub_int q

theorem unI {f : Value → Sem Value} {g : Int → Int}
    (rule : ∀ (i : Int) (t : Tok) (s : Shared) (Q : Value → Shared → Prop) (E : Value → Shared → Prop), Q (.int (g i) s.toks) { s with toks := s.toks + 1 } → wpAny (model X.prog X.w) X.A (f (.int i t)) Q E s) :
    UnR X f (rU fun i => .int (g i)) := by
  intro pins s σ H x v Q I rx h
  obtain ⟨i, rfl, q⟩ := h
  obtain ⟨t, rfl⟩ := rx
  exact rule i t s _ _ ⟨.int (g i), H, I.tok _, ⟨_, rfl⟩, q⟩
theorem un_neg : UnR X (unaryOp .USub) (rU fun i => .int (-i)) := unI fun _ _ _ _ _ q => neg_int q

/-! ### bools among ints: n += (a < b) -/
end

/-! ### comparisons -/
/-- the scalars that == tells apart as data does -/
noncomputable def scal : V → V → Bool
  | .non, .non => true | .non, .int _ => true | .int _, .non => true | .non, .bl _ => true | .bl _, .non => true | .non, .str _ => true | .str _, .non => true
  | .int _, .int _ => true | .bl _, .bl _ => true | .str _, .str _ => true | .byt _, .byt _ => true
  | .int _, .str _ => true | .str _, .int _ => true | .bl _, .str _ => true | .str _, .bl _ => true
  | _, _ => false
noncomputable def rEq : R2 := fun x y H Q => scal x y = true ∧ Q (.bl (decide (x = y))) H
noncomputable def rNe : R2 := fun x y H Q => scal x y = true ∧ Q (.bl (!decide (x = y))) H

theorem dec_int {i j : Int} : decide (V.int i = V.int j) = (i == j) := by
  rw [Bool.eq_iff_iff]
  simp
theorem dec_bl {i j : Bool} : decide (V.bl i = V.bl j) = (i == j) := by
  rw [Bool.eq_iff_iff]
  simp
theorem dec_str {i j : Str} : decide (V.str i = V.str j) = (i == j) := by
  rw [Bool.eq_iff_iff]
  simp
theorem dec_byt {i j : Array UInt8} : decide (V.byt i = V.byt j) = (i.toList == j.toList) := by
  rw [Bool.eq_iff_iff]
  cases i
  cases j
  simp

section
variable {X : Cx} {a b c : Expr} {ta tb tc : TE} {pos : Pos}
theorem fin_bl {pins : List (Addr × Obj)} {σ : St} {H : Hp} {s : Shared} {Q : VK} {k k' : Bool} (I : Inv X pins σ H s) (q : Q (.bl k) H) (e : k = k') : EP X pins σ Q (.bool k') s := by
  subst e
  exact ⟨.bl k, H, I, rfl, q⟩
theorem op_eq : OpR X (compareOp .Eq) rEq := by
  intro pins s σ H x y v u Q I rx ry h
  obtain ⟨hs, q⟩ := h
  cases x with
  | non =>
    cases rx
    cases y with
    | non => cases ry; exact PySem.EqNone.eq_none_none (fin_bl I q (by simp))
    | bl j => cases ry; exact PySem.EqNone.eq_none_bool (fin_bl I q (by simp))
    | int j => obtain ⟨t', rfl⟩ := ry; exact PySem.EqNone.eq_none_int (fin_bl I q (by simp))
    | str j => obtain ⟨t', rfl⟩ := ry; exact PySem.EqNone.eq_none_str (fin_bl I q (by simp))
    | _ => exact absurd (show false = true from hs) Bool.false_ne_true
  | bl i =>
    cases rx
    cases y with
    | non => cases ry; exact PySem.EqNone.eq_bool_none (fin_bl I q (by simp))
    | bl j => cases ry; exact eq_bool (fin_bl I q dec_bl)
    | str j => obtain ⟨t', rfl⟩ := ry; exact PySem.EqMixed.eq_bool_str (fin_bl I q (by simp))
    | _ => exact absurd (show false = true from hs) Bool.false_ne_true
  | int i =>
    obtain ⟨t, rfl⟩ := rx
    cases y with
    | non => cases ry; exact PySem.EqNone.eq_int_none (fin_bl I q (by simp))
    | int j => obtain ⟨t', rfl⟩ := ry; exact eq_int (fin_bl I q dec_int)
    | str j => obtain ⟨t', rfl⟩ := ry; exact PySem.EqMixed.eq_int_str (fin_bl I q (by simp))
    | _ => exact absurd (show false = true from hs) Bool.false_ne_true
  | str i =>
    obtain ⟨t, rfl⟩ := rx
    cases y with
    | non => cases ry; exact PySem.EqNone.eq_str_none (fin_bl I q (by simp))
    | bl j => cases ry; exact PySem.EqMixed.eq_str_bool (fin_bl I q (by simp))
    | int j => obtain ⟨t', rfl⟩ := ry; exact PySem.EqMixed.eq_str_int (fin_bl I q (by simp))
    | str j => obtain ⟨t', rfl⟩ := ry; exact eq_str (fin_bl I q dec_str)
    | _ => exact absurd (show false = true from hs) Bool.false_ne_true
  | byt i =>
    obtain ⟨t, rfl⟩ := rx
    cases y with
    | byt j => obtain ⟨t', rfl⟩ := ry; exact PySem.W.eq_bytes (fin_bl I q dec_byt)
    | _ => exact absurd (show false = true from hs) Bool.false_ne_true
  | _ => cases y <;> exact absurd (show false = true from hs) Bool.false_ne_true
theorem op_ne : OpR X (compareOp .NotEq) rNe := by
  intro pins s σ H x y v u Q I rx ry h
  obtain ⟨hs, q⟩ := h
  cases x with
  | non =>
    cases rx
    cases y with
    | non => cases ry; exact PySem.EqNone.ne_none_none (fin_bl I q (by simp))
    | bl j => cases ry; exact PySem.EqNone.ne_none_bool (fin_bl I q (by simp))
    | int j => obtain ⟨t', rfl⟩ := ry; exact PySem.EqNone.ne_none_int (fin_bl I q (by simp))
    | str j => obtain ⟨t', rfl⟩ := ry; exact PySem.EqNone.ne_none_str (fin_bl I q (by simp))
    | _ => exact absurd (show false = true from hs) Bool.false_ne_true
  | bl i =>
    cases rx
    cases y with
    | non => cases ry; exact PySem.EqNone.ne_bool_none (fin_bl I q (by simp))
    | bl j => cases ry; exact ne_bool (fin_bl I q (congrArg not dec_bl))
    | str j => obtain ⟨t', rfl⟩ := ry; exact PySem.EqMixed.ne_bool_str (fin_bl I q (by simp))
    | _ => exact absurd (show false = true from hs) Bool.false_ne_true
  | int i =>
    obtain ⟨t, rfl⟩ := rx
    cases y with
    | non => cases ry; exact PySem.EqNone.ne_int_none (fin_bl I q (by simp))
    | int j => obtain ⟨t', rfl⟩ := ry; exact ne_int (fin_bl I q (congrArg not dec_int))
    | str j => obtain ⟨t', rfl⟩ := ry; exact PySem.EqMixed.ne_int_str (fin_bl I q (by simp))
    | _ => exact absurd (show false = true from hs) Bool.false_ne_true
  | str i =>
    obtain ⟨t, rfl⟩ := rx
    cases y with
    | non => cases ry; exact PySem.EqNone.ne_str_none (fin_bl I q (by simp))
    | bl j => cases ry; exact PySem.EqMixed.ne_str_bool (fin_bl I q (by simp))
    | int j => obtain ⟨t', rfl⟩ := ry; exact PySem.EqMixed.ne_str_int (fin_bl I q (by simp))
    | str j => obtain ⟨t', rfl⟩ := ry; exact ne_str (fin_bl I q (congrArg not dec_str))
    | _ => exact absurd (show false = true from hs) Bool.false_ne_true
  | byt i =>
    obtain ⟨t, rfl⟩ := rx
    cases y with
    | byt j => obtain ⟨t', rfl⟩ := ry; exact PySem.W.ne_bytes (fin_bl I q (congrArg not dec_byt))
    | _ => exact absurd (show false = true from hs) Bool.false_ne_true
  | _ => cases y <;> exact absurd (show false = true from hs) Bool.false_ne_true

theorem op_lt : OpR X (compareOp .Lt) (rI0 fun i j => .bl (decide (i < j))) := opB0 fun _ _ _ _ _ _ _ q => lt_int q
theorem op_gt : OpR X (compareOp .Gt) (rI0 fun i j => .bl (decide (j < i))) := opB0 fun _ _ _ _ _ _ _ q => gt_int q
theorem op_ge : OpR X (compareOp .GtE) (rI0 fun i j => .bl (decide (j ≤ i))) := opB0 fun _ _ _ _ _ _ _ q => ge_int q
theorem op_lt_str : OpR X (compareOp .Lt) (fun x y H Q => ∃ i j, x = .str i ∧ y = .str j ∧ Q (.bl (decide (i.cps.toList < j.cps.toList))) H) := by
  intro pins s σ H x y v u Q I rx ry h
  obtain ⟨i, j, rfl, rfl, q⟩ := h
  obtain ⟨t, rfl⟩ := rx
  obtain ⟨t', rfl⟩ := ry
  exact lt_str (fin_bl I q rfl)

/-- is None, is not None: the right side a value none -/
theorem op_isN : OpR X (compareOp .Is) (fun x y H Q => y = .non ∧ Q (.bl (decide (x = .non))) H) := by
  intro pins s σ H x y v u Q I rx ry h
  obtain ⟨rfl, q⟩ := h
  cases ry
  refine is_none_gen (fin_bl I q ?_)
  cases x <;> first
    | (cases rx; rfl)
    | (obtain ⟨t, rfl⟩ := rx; rfl)
theorem op_notN : OpR X (compareOp .IsNot) (fun x y H Q => y = .non ∧ Q (.bl (!decide (x = .non))) H) := by
  intro pins s σ H x y v u Q I rx ry h
  obtain ⟨rfl, q⟩ := h
  cases ry
  refine isnot_none_gen (fin_bl I q ?_)
  cases x <;> first
    | (cases rx; rfl)
    | (obtain ⟨t, rfl⟩ := rx; rfl)


/-- two rules for one operation: by cases -/
theorem OpR.or {f : Value → Value → Sem Value} {r r' : R2} (h : OpR X f r) (h' : OpR X f r') : OpR X f (fun x y H Q => r x y H Q ∨ r' x y H Q) := by
  intro pins s σ H x y v u Q I rx ry q
  rcases q with q | q
  · exact h pins s σ H x y v u Q I rx ry q
  · exact h' pins s σ H x y v u Q I rx ry q

theorem nomark (b : Expr) {op : CmpOp} (h : op ≠ .In := by decide) (h2 : op ≠ .NotIn := by decide) : behindInMarks op b = false := by
  have e1 : (op == CmpOp.In) = false := by cases op <;> first | rfl | exact absurd rfl h
  have e2 : (op == CmpOp.NotIn) = false := by cases op <;> first | rfl | exact absurd rfl h2
  cases b <;> simp [behindInMarks, e1, e2]
/-- a comparison as a value; hm: nomark b, or (for in, not in) by with_unfolding_all rfl -/
theorem pe_cmpR {op : CmpOp} {r : R2} (ho : OpR X (compareOp op) r) (ha : PE X a ta) (hb : PE X b tb) (hm : behindInMarks op b = false) : PE X (.Compare a [op] [b] pos) (tOp r ta tb) := by
  intro pins s σ H Q I h
  exact wpAny_Compare1 (binT ha hb I h fun v u s2 x y H2 I2 rx ry q => ho pins s2 σ H2 x y v u Q I2 rx ry q) hm
/-- a reading of a value as a test -/
noncomputable def tTest (t : TE) : TT := fun σ H Q => t σ H fun x H' => ∃ k, x = .bl k ∧ Q k H'
theorem pt_cmpR {op : CmpOp} {r : R2} (ho : OpR X (compareOp op) r) (ha : PE X a ta) (hb : PE X b tb) (hm : behindInMarks op b = false) : PT X (.Compare a [op] [b] pos) (tTest (tOp r ta tb)) := by
  intro pins s σ H Q I h
  refine wpAny_isTrue_Compare1 (thn (ha pins s σ H _ I h) fun v s1 ⟨x, H1, I1, r1, q1⟩ => thn (hb pins s1 σ H1 _ I1 q1) fun u s2 ⟨y, H2, I2, r2, q2⟩ =>
    thn (ho pins s2 σ H2 x y v u _ I2 r1 r2 q2) fun c s3 ⟨z, H3, I3, r3, k, e, q3⟩ => ?_) hm
  subst e
  cases r3
  exact wpAny_truthy_bool ⟨H3, I3, q3⟩

/-! ### truth -/
theorem line63 : (sizeLine : Nat) < 2 ^ 63 := by rw [sizeLine_eq]; decide

/-! ### strs and bytes -/
theorem op_add_str : OpR X (binaryOp .Add) (fun x y H Q => ∃ i j, x = .str i ∧ y = .str j ∧ i.length + j.length ≤ sizeLine ∧ Q (.str (i ++ j)) H) := by
  intro pins s σ H x y v u Q I rx ry h
  obtain ⟨i, j, rfl, rfl, hz, q⟩ := h
  obtain ⟨t, rfl⟩ := rx
  obtain ⟨t', rfl⟩ := ry
  exact add_str (fun t' tk => ⟨.str (i ++ j), H, I.tok _, ⟨_, rfl⟩, q⟩) hz


/-! ### scalar builtins, by CallR -/
theorem vals1 {x : V} {us : List Value} (r : Vals [x] us) : ∃ u, us = [u] ∧ RelV x u := by
  cases r with
  | cons r1 r2 => cases r2; exact ⟨_, rfl, r1⟩
theorem vals2 {x y : V} {us : List Value} (r : Vals [x, y] us) : ∃ u w', us = [u, w'] ∧ RelV x u ∧ RelV y w' := by
  cases r with
  | cons r1 r2 =>
    cases r2 with
    | cons r3 r4 => cases r4; exact ⟨_, _, rfl, r1, r3⟩
theorem call_abs : CallR X (.builtin "abs") (fun xs H Q => ∃ i, xs = [.int i] ∧ Q (.int (if i < 0 then -i else i)) H) := by
  intro pins s σ H xs us Q I r h
  obtain ⟨i, rfl, q⟩ := h
  obtain ⟨u, rfl, t, rfl⟩ := vals1 r
  exact call_abs_int fun u tk => ⟨.int (if i < 0 then -i else i), H, I.tok _, ⟨_, rfl⟩, q⟩
theorem call_max2 (hc : X.calm = true) : CallR X (.builtin "max") (fun xs H Q => ∃ i j, xs = [.int i, .int j] ∧ Q (.int (if j > i then j else i)) H) := by
  intro pins s σ H xs us Q I r h
  obtain ⟨i, j, rfl, q⟩ := h
  obtain ⟨u, w', rfl, ⟨t, rfl⟩, ⟨t', rfl⟩⟩ := vals2 r
  refine max_two_ints (I.ok.hd hc) fun h' tk k => ⟨_, H, I.kept k, ?_, q⟩
  by_cases hj : j > i
  · rw [if_pos hj, if_pos hj]; exact ⟨_, rfl⟩
  · rw [if_neg hj, if_neg hj]; exact ⟨_, rfl⟩
theorem call_int1 : CallR X (.type "int") (fun xs H Q => (∃ i, xs = [.int i] ∧ Q (.int i) H) ∨ ∃ k, xs = [.bl k] ∧ Q (.int (if k then 1 else 0)) H) := by
  intro pins s σ H xs us Q I r h
  rcases h with ⟨i, rfl, q⟩ | ⟨k, rfl, q⟩
  · obtain ⟨u, rfl, t, rfl⟩ := vals1 r
    exact call_int_int ⟨.int i, H, I, ⟨_, rfl⟩, q⟩
  · obtain ⟨u, rfl, r1⟩ := vals1 r
    cases r1
    exact call_int_bool ⟨.int (if k then 1 else 0), H, I.tok _, ⟨_, rfl⟩, q⟩
/-- divmod: a new tuple -/
theorem call_divmod : CallR X (.builtin "divmod") (fun xs H Q => ∃ i j, xs = [.int i, .int j] ∧ CDiv i j ∧ ∀ p, H p = none → Q (.ref p) (upd H p (.tup [.int (i / j), .int (i % j)]))) := by
  intro pins s σ H xs us Q I r h
  obtain ⟨i, j, rfl, ⟨h1, h2⟩, q⟩ := h
  obtain ⟨u, w', rfl, ⟨t, rfl⟩, ⟨t', rfl⟩⟩ := vals2 r
  refine divmod_int (by omega) ?_ (.inl (PyProof.noPylong_small (by omega)))
  rw [Int.fdiv_eq_ediv_of_nonneg i (by omega), Int.fmod_eq_emod_of_nonneg i (by omega)]
  have hn : H s.heap.objs.size = none := I.hok.fresh (Nat.le_refl _)
  refine ⟨.ref s.heap.objs.size, _, ?_, rfl, q _ hn⟩
  refine I.laid (fun b o e => Heap.get?_push_of_some _ e) (Nat.le_refl _) ⟨by simp only [List.length_cons, List.length_nil]; rw [sizeLine_eq]; decide, [.int (i / j) s.toks, .int (i % j) (s.toks + 1)], .cons ⟨_, rfl⟩ (.cons ⟨_, rfl⟩ .nil), ?_⟩
  exact ⟨_, Heap.get?_push_size s.heap rfl, rfl, 0, rfl⟩
end
end L2

namespace L2
open PySem PySem.Spec PyProof.Rows

/-! ### an instance, its attributes a map -/
structure ObjM (h : Heap) (x dx C : Addr) (mA : Str → Option Value) : Prop where
  obj : h.get? x = some (PySem.W.instObj C dx)
  ns : h.Ns1 dx mA
  ne : dx ≠ x

theorem lookIn_ns {h : Heap} {dx : Addr} {mA : Str → Option Value} (n : h.Ns1 dx mA) : ∃ od, h.get? dx = some od ∧ ∀ name, PySem.W.lookIn name od = some (mA name) := by
  obtain ⟨o, es, ep, ho, hd, hk, _, hm⟩ := n
  refine ⟨o, ho, fun name => ?_⟩
  have e := hm name
  unfold nsFind findBy at e
  rw [← Array.find?_toList] at e
  unfold PySem.W.lookIn
  rw [hd]
  dsimp only
  split
  · rename_i y q
    rw [q] at e
    exact congrArg some e
  · rename_i q
    rw [q] at e
    have a : es.toList.any (·.refKey) = false := by
      rw [List.any_eq_false]
      intro y hy
      obtain ⟨z, t, hkey⟩ := hk y (Array.mem_toList_iff.mp hy)
      simp [DictEntry.refKey, hkey]
    have a' : ¬ es.toList.any (·.refKey) = true := by rw [a]; exact Bool.false_ne_true
    rw [if_neg a']
    exact congrArg some e

theorem ObjM.look {h : Heap} {x dx C : Addr} {mA : Str → Option Value} (I : ObjM h x dx C mA) : ∃ od, PySem.W.InstAt h x (PySem.W.instObj C dx) C (some od) ∧ ∀ name, PySem.W.lookIn name od = some (mA name) :=
  let ⟨od, ho, hl⟩ := lookIn_ns I.ns
  ⟨od, ⟨I.obj, rfl, rfl, ho⟩, hl⟩

section
variable {prog : Program} {w : World} {A : Around} {E : Value → Shared → Prop} {s : Shared} {K : PySem.W.Frag} {x dx C f : Addr} {mA : Str → Option Value} {name : Str} {v : Value}

theorem get_map {expr : Bool} {Q : Value → Shared → Prop} (X : K.In s.heap) (I : ObjM s.heap x dx C mA) (hg : PySem.W.plainGet K C name = true) (hh : PySem.W.hasDictIn K C = true)
    (ha : PySem.W.findIn K (.ref C) name = some none) (hv : mA name = some v) (hv' : PySem.W.handedIn v = true) (h : Q v { s with toks := s.toks + 1 }) :
    wpAny (model prog w) A (getAttr (.ref x) name expr) Q E s := by
  obtain ⟨od, J, hl⟩ := I.look
  exact PySem.W.get_value X J (PySem.W.plainGet_of hg).1 (PySem.W.findObj_own hh ha rfl (by rw [hl, hv])) hv' h


theorem get_meth {pl : Sem Bool} {Q : Value × List Value → Shared → Prop} (X : K.In s.heap) (I : ObjM s.heap x dx C mA) (hg : PySem.W.plainGet K C name = true)
    (hf : PySem.W.findIn K (.ref C) name = some (some (.ref f))) (ht : PySem.W.isFn K (.ref f) = true) (hv : mA name = none) (h : Q (.ref f, [.ref x]) s) :
    wpAny (model prog w) A (getMethod (.ref x) name pl) Q E s := by
  obtain ⟨od, J, hl⟩ := I.look
  exact PySem.W.method_fn X J (PySem.W.plainGet_of hg).1 (PySem.W.plainGet_of hg).2 hf (beq_iff_eq.mp ht) (by show (PySem.W.lookIn name od).map (·.isSome) = some false; rw [hl, hv]; rfl) h

theorem set_map {ns : List Str} {Q : Unit → Shared → Prop} (X : K.In s.heap) (I : ObjM s.heap x dx C mA)
    (hs : PySem.W.findIn K (.ref C) "__setattr__" = some (some (.builtin "object.__setattr__"))) (hp : PySem.W.plainOver K C = true) (ht : PySem.W.takerIn K C name = some none) (hh : PySem.W.hasDictIn K C = true)
    (hw : PySem.Within mA ns) (hsz : ns.length ≤ sizeLine)
    (h : ∀ h', ObjM h' x dx C (fun y => if y = name then some v else mA y) → Heap.SameBut dx s.heap h' → Q () { s with heap := h', toks := s.toks + 2 }) :
    wpAny (model prog w) A (setAttr (.ref x) name v) Q E s := by
  obtain ⟨od, J, hl⟩ := I.look
  refine PySem.W.set_plain X J hs (PySem.W.osa_open (s := { s with toks := s.toks + 1 }) (r := none) X J hp ht fun b => ?_)
  obtain ⟨cd, hc, hd'⟩ := PySem.W.any_some hh
  have hx : s.heap.get? x = some ⟨.ref C, some dx, .plain, #[]⟩ := I.obj
  refine wpAny_bind (wpAny_pure (wpAny_bind (wpAny_bind (wpAny_loadPart hx (wpAny_bind (PySem.W.Looks.here (s := { s with toks := s.toks + 1 }) (PySem.W.looks_clsIn X hc) ?_))))))
  rw [hd']
  refine wpAny_pure (a := some dx) (wpAny_bind (wpAny_pure (wpAny_bind ?_)))
  refine wpAny_nsSet1 (s := { s with toks := s.toks + 1 }) I.ns fun h' hn2 hs2 => ?_
  obtain ⟨oD, esD, epD, hoD, hdD, hcD⟩ := hn2.count (PySem.Within.cons name v hw)
  refine wpAny_bind (wpAny_lookBehind hoD (by rw [hdD]; exact pastItsLine_dict (Nat.le_trans hcD (by rw [List.length_cons]; omega))) ?_)
  exact wpAny_pure (h _ ⟨(hs2.2 _ (Ne.symm I.ne)).trans I.obj, hn2, I.ne⟩ hs2)

/-- C(..): the dict at the heap's end, the instance behind it; then its __init__ -/
theorem make_map {R : Result → Shared → Prop} {vs : List Value} {kw : List (Str × Value)} (X : K.In s.heap) (hm : PySem.W.makesIn K C = true)
    (hi : PySem.W.findIn K (.ref C) "__init__" = some (some (.ref f))) (hf : PySem.W.typeIn K (.ref f) = some (.type "function"))
    (h : codeAny (model prog w) (A.under (.builtin "type.__call__" ⟨.ref C :: vs, kw⟩)) (.call (.ref f) ⟨.ref (s.heap.objs.size + 1) :: vs, kw⟩) (PySem.W.InitBack (s.heap.objs.size + 1) R)
      { s with heap := (s.heap.push PySem.W.emptyDict).push (PySem.W.instObj C s.heap.objs.size) }) :
    codeAny (model prog w) A (.call (.ref C) ⟨vs, kw⟩) R s := by
  obtain ⟨hh, g, d, t, os⟩ := s
  exact PySem.W.make_core (PySem.W.makes_of X hm) (PySem.W.looks_findIn X hi) (fun self => PySem.W.bind_fn X self hf) (.inl rfl) h
end

/-! ### the attributes as a list of pairs -/
noncomputable def putF (f : Str) (v : V) : List (Str × V) → List (Str × V)
  | [] => [(f, v)]
  | (g, x) :: r => if g = f then (g, v) :: r else (g, x) :: putF f v r
theorem lookup_putF (f g : Str) (v : V) : ∀ fs : List (Str × V), (putF f v fs).lookup g = if g = f then some v else fs.lookup g
  | [] => by
    show List.lookup g [(f, v)] = _
    by_cases h : g = f
    · have hb : (g == f) = true := beq_iff_eq.mpr h
      simp only [List.lookup, hb, if_pos h]
    · have hb : (g == f) = false := beq_eq_false_iff_ne.mpr h
      simp only [List.lookup, hb, if_neg h]
  | (k, x) :: r => by
    have ih := lookup_putF f g v r
    rw [show putF f v ((k, x) :: r) = (if k = f then (k, v) :: r else (k, x) :: putF f v r) from rfl]
    by_cases hk : k = f
    · rw [if_pos hk]
      by_cases h : g = k
      · have hb : (g == k) = true := beq_iff_eq.mpr h
        simp only [List.lookup, hb, if_pos (h.trans hk)]
      · have hb : (g == k) = false := beq_eq_false_iff_ne.mpr h
        simp only [List.lookup, hb, if_neg (fun e : g = f => h (e.trans hk.symm))]
    · rw [if_neg hk]
      by_cases h : g = k
      · have hb : (g == k) = true := beq_iff_eq.mpr h
        simp only [List.lookup, hb, if_neg (fun e : g = f => hk (h.symm.trans e))]
      · have hb : (g == k) = false := beq_eq_false_iff_ne.mpr h
        simp only [List.lookup, hb]
        exact ih
theorem keys_putF (f : Str) (v : V) : ∀ fs : List (Str × V), f ∈ (putF f v fs).map (·.1) ∧ ∀ g, g ∈ fs.map (·.1) → g ∈ (putF f v fs).map (·.1)
  | [] => ⟨by simp [putF], fun g h => by simp at h⟩
  | (k, x) :: r => by
    obtain ⟨i1, i2⟩ := keys_putF f v r
    rw [show putF f v ((k, x) :: r) = (if k = f then (k, v) :: r else (k, x) :: putF f v r) from rfl]
    by_cases hk : k = f
    · rw [if_pos hk]
      subst hk
      exact ⟨by simp, fun g h => by simpa using h⟩
    · rw [if_neg hk]
      refine ⟨?_, fun g h => ?_⟩
      · rw [List.map_cons]
        exact List.mem_cons_of_mem _ i1
      · rw [List.map_cons] at h ⊢
        rcases List.mem_cons.mp h with e | e
        · exact List.mem_cons.mpr (.inl e)
        · exact List.mem_cons_of_mem _ (i2 g e)
theorem length_putF (f : Str) (v : V) : ∀ fs : List (Str × V), (putF f v fs).length ≤ fs.length + 1
  | [] => by simp [putF]
  | (k, x) :: r => by
    have ih := length_putF f v r
    rw [show putF f v ((k, x) :: r) = (if k = f then (k, v) :: r else (k, x) :: putF f v r) from rfl]
    by_cases hk : k = f
    · rw [if_pos hk, List.length_cons, List.length_cons]; omega
    · rw [if_neg hk, List.length_cons, List.length_cons]; omega

theorem RelO.some_of {v : V} {o : Option Value} (r : RelO (some v) o) : ∃ u, o = some u ∧ RelV v u := by
  cases o with
  | none => exact (show False from r).elim
  | some u => exact ⟨u, rfl, r⟩
theorem RelO.none_of {o : Option Value} (r : RelO none o) : o = none := by
  cases o with
  | none => rfl
  | some u => exact (show False from r).elim
theorem handed_of {v : V} {u : Value} (r : RelV v u) : PySem.W.handedIn u = true := by
  cases v with
  | non => cases (show u = Value.none from r); rfl
  | bl b => cases (show u = Value.bool b from r); rfl
  | int i => obtain ⟨t, e⟩ := (show ∃ t, u = Value.int i t from r); cases e; rfl
  | str x => obtain ⟨t, e⟩ := (show ∃ t, u = Value.str x t from r); cases e; rfl
  | byt b => obtain ⟨t, e⟩ := (show ∃ t, u = Value.bytes b t from r); cases e; rfl
  | flt b => obtain ⟨t, e⟩ := (show ∃ t, u = Value.float b t from r); cases e; rfl
  | ref a => cases (show u = Value.ref a from r); rfl
  | ty n => cases (show u = Value.type n from r); rfl

section
variable {P : Program} {w : World} {H H' : Hp} {h h' : Heap} {a C dx : Addr} {fs fs' : List (Str × V)}
theorem ins_get (hok : HOk P w H h) (e : H a = some (.ins C dx fs)) : ∃ mA, ObjM h a dx C mA ∧ (∀ f, RelO (fs.lookup f) (mA f)) ∧ PySem.Within mA (fs.map (·.1)) ∧ fs.length ≤ 1000 ∧ H dx = some (.own a) := by
  obtain ⟨d, z, ne, ob, mA, n, r, q⟩ := (show ObjOk P w H h a (.ins C dx fs) from hok a _ e)
  exact ⟨mA, ⟨ob, n, ne⟩, r, q, z, d⟩
end

/-! ### what of the text a class must have -/
structure Cls (K : PySem.W.Frag) (C : Addr) : Prop where
  pg : PySem.W.plainGet K C Str.empty = true
  hd : PySem.W.hasDictIn K C = true
  po : PySem.W.plainOver K C = true
  sa : PySem.W.findIn K (.ref C) "__setattr__" = some (some (.builtin "object.__setattr__"))
theorem Cls.get {K : PySem.W.Frag} {C : Addr} (c : Cls K C) (f : Str) : PySem.W.plainGet K C f = true := c.pg
/-- no class of it has the name -/
noncomputable def NoAttr (K : PySem.W.Frag) (C : Addr) (f : Str) : Prop := PySem.W.findIn K (.ref C) f = some none
theorem NoAttr.taker {K : PySem.W.Frag} {C : Addr} {f : Str} (n : NoAttr K C f) : PySem.W.takerIn K C f = some none := by
  unfold PySem.W.takerIn
  rw [show PySem.W.findIn K (.ref C) f = some none from n]
  rfl
/-- a constant of the class -/
structure Con (K : PySem.W.Frag) (C : Addr) (f : Str) (v : V) (u : Value) : Prop where
  at_ : PySem.W.findIn K (.ref C) f = some (some u)
  rel : RelV v u
  get : PySem.W.specialIn K u "__get__" = some none
  cp : PySem.W.copiedNames.contains f = false
/-- a method: a plain def of the class or of one above it -/
structure Meth (K : PySem.W.Frag) (C : Addr) (m : Str) (f : Addr) : Prop where
  at_ : PySem.W.findIn K (.ref C) m = some (some (.ref f))
  fn : PySem.W.isFn K (.ref f) = true
  kp : PySem.W.keepIn K (.ref f) = true

section
variable {X : Cx} {pins : List (Addr × Obj)} {σ : St} {H : Hp} {s : Shared} {a C dx : Addr} {fs : List (Str × V)} {f : Str} {v : V} {A : Around} {E : Value → Shared → Prop}

theorem getattr_ok {b : Bool} {Q : Value → Shared → Prop} (I : Inv X pins σ H s) (e : H a = some (.ins C dx fs)) (c : Cls X.K C) (n : NoAttr X.K C f) (l : fs.lookup f = some v)
    (h : ∀ u s', Inv X pins σ H s' → RelV v u → Q u s') : wpAny (model X.prog X.w) A (getAttr (.ref a) f b) Q E s := by
  obtain ⟨mA, O, r, _, _, _⟩ := ins_get I.hok e
  obtain ⟨u, hu, ru⟩ := RelO.some_of (v := v) (o := mA f) (by rw [← l]; exact r f)
  exact get_map I.kIn O (c.get f) c.hd n hu (handed_of ru) (h u _ (I.tok _) ru)


theorem getmeth_ok {m : Str} {g : Addr} {pl : Sem Bool} {Q : Value × List Value → Shared → Prop} (I : Inv X pins σ H s) (e : H a = some (.ins C dx fs)) (c : Cls X.K C) (k : Meth X.K C m g) (l : fs.lookup m = none)
    (h : Q (.ref g, [.ref a]) s) : wpAny (model X.prog X.w) A (getMethod (.ref a) m pl) Q E s := by
  obtain ⟨mA, O, r, _, _, _⟩ := ins_get I.hok e
  have hn : mA m = none := RelO.none_of (by rw [← l]; exact r m)
  exact get_meth I.kIn O (c.get m) k.at_ k.fn hn h

theorem setattr_ok {y : V} {u : Value} {Q : Unit → Shared → Prop} (I : Inv X pins σ H s) (e : H a = some (.ins C dx fs)) (c : Cls X.K C) (n : NoAttr X.K C f) (hl : fs.length < 1000) (ry : RelV y u)
    (h : ∀ s', Inv X pins σ (upd H a (.ins C dx (putF f y fs))) s' → Q () s') : wpAny (model X.prog X.w) A (setAttr (.ref a) f u) Q E s := by
  obtain ⟨mA, O, r, wi, _, ho⟩ := ins_get I.hok e
  have hz : (fs.map (·.1)).length ≤ sizeLine := by rw [List.length_map, sizeLine_eq]; omega
  refine set_map I.kIn O c.sa c.po n.taker c.hd wi hz fun h' O' sb => h _ ?_
  have hd : ∃ o, h'.get? dx = some o := let ⟨o, _, _, e', _⟩ := O'.ns; ⟨o, e'⟩
  refine I.write (x := a) (e := dx) (by rw [e]; exact True.intro) (.inr ho) (fun b q hb z => (sb.2 b hb).trans z) hd ?_
  refine ⟨by rw [upd_ne O.ne]; exact ho, ?_, O.ne, O'.obj, _, O'.ns, fun g => ?_, fun g hg => ?_⟩
  · have := length_putF f y fs; omega
  · show RelO ((putF f y fs).lookup g) (if g = f then some u else mA g)
    rw [lookup_putF]
    by_cases q : g = f
    · rw [if_pos q, if_pos q]; exact ry
    · rw [if_neg q, if_neg q]; exact r g
  · by_cases q : g = f
    · rw [q]; exact (keys_putF f y fs).1
    · refine (keys_putF f y fs).2 g (wi g fun z => hg ?_)
      show (if g = f then some u else mA g) = none
      rw [if_neg q]; exact z

/-- a new instance, tracked, without attributes -/
theorem Inv.made (I : Inv X pins σ H s) : Inv X pins σ (upd (upd H s.heap.objs.size (.own (s.heap.objs.size + 1))) (s.heap.objs.size + 1) (.ins C s.heap.objs.size []))
    { s with heap := (s.heap.push PySem.W.emptyDict).push (PySem.W.instObj C s.heap.objs.size) } := by
  have e1 : (s.heap.push PySem.W.emptyDict).get? s.heap.objs.size = some PySem.W.emptyDict := Heap.get?_push_size s.heap rfl
  have e2 : ((s.heap.push PySem.W.emptyDict).push (PySem.W.instObj C s.heap.objs.size)).get? (s.heap.objs.size + 1) = some (PySem.W.instObj C s.heap.objs.size) := by
    have := Heap.get?_push_size (s.heap.push PySem.W.emptyDict) (o := PySem.W.instObj C s.heap.objs.size) rfl
    rwa [Heap.size_push] at this
  have e3 : (s.heap.push PySem.W.emptyDict).Ns s.heap.objs.size (fun _ => none) := ⟨PySem.W.emptyDict, #[], _, e1, rfl, (fun e he => absurd he (by simp)), fun _ => rfl⟩
  have I1 := I.laid (a := s.heap.objs.size) (o := .own (s.heap.objs.size + 1)) (h' := s.heap.push PySem.W.emptyDict) (t' := s.toks) (fun b u q => Heap.get?_push_of_some _ q) (Nat.le_refl _) ⟨_, e1⟩
  refine I1.laid (a := s.heap.objs.size + 1) (o := .ins C s.heap.objs.size []) (t' := s.toks) (fun b u q => Heap.get?_push_of_some _ q) (Nat.le_of_eq (Heap.size_push _ _)) ?_
  have ne : s.heap.objs.size ≠ s.heap.objs.size + 1 := Nat.ne_of_lt (Nat.lt_succ_self _)
  refine ⟨by rw [upd_ne ne, upd_same], Nat.zero_le _, ne, e2, fun _ => none, (Heap.Ns1.of_empty e3).at fun o q => Heap.get?_push_of_some _ q, fun _ => True.intro, fun y hy => absurd rfl hy⟩

/-- e.f where nothing but the object is asked: through attributeBase (super) and the last hold -/
theorem attr_of {prog : Program} {w : World} {env : Env} {e : Expr} {f : Str} {pos : Pos} {s : Shared} {Q : Value → Shared → Prop} (hb : attributeBase e f env (eval e env) = eval e env)
    (h : wpAny (model prog w) A (eval e env) (fun o s₁ => wpAny (model prog w) A (getAttr o f true) Q E s₁) E s) : wpAny (model prog w) A (eval (.Attribute e f pos) env) Q E s :=
  Attribute_any_ h (by rw [arm_eval_Attribute, hb])
end

/-! ### readings and rules -/
/-- e.f, an attribute of the instance -/
noncomputable def tFld (K : PySem.W.Frag) (ta : TE) (f : Str) : TE := fun σ H Q => ta σ H fun x H1 => ∃ a C dx fs v, x = .ref a ∧ H1 a = some (.ins C dx fs) ∧ Cls K C ∧ NoAttr K C f ∧ fs.lookup f = some v ∧ Q v H1
/-- e.f = value -/
noncomputable def sFld (K : PySem.W.Frag) (ta tv : TE) (f : Str) : TS := fun D σ H => tv σ H fun y H1 => ta σ H1 fun x H2 => ∃ a C dx fs, x = .ref a ∧ H2 a = some (.ins C dx fs) ∧ Cls K C ∧ NoAttr K C f ∧ fs.length < 1000 ∧
  D.nx σ (upd H2 a (.ins C dx (putF f y fs)))
/-- an augmented operator on two values -/
noncomputable def InOp (X : Cx) (op : Operator) (rd : V → V → Hp → VK → Prop) : Prop :=
  ∀ (pins : List (Addr × Obj)) (s : Shared) (σ : St) (H : Hp) (x y : V) (u v : Value) (Q : VK), Inv X pins σ H s → RelV x u → RelV y v → rd x y H Q → wpAny (model X.prog X.w) X.A (inplaceOp op u v) (EP X pins σ Q) X.xe s
/-- e.f op= value -/
noncomputable def sFldAug (K : PySem.W.Frag) (ta tv : TE) (rd : V → V → Hp → VK → Prop) (f : Str) : TS := fun D σ H => ta σ H fun x H1 => ∃ a C dx fs v, x = .ref a ∧ H1 a = some (.ins C dx fs) ∧ Cls K C ∧ NoAttr K C f ∧ fs.lookup f = some v ∧
  tv σ H1 fun y H2 => rd v y H2 fun z H3 => ∃ dx' fs', H3 a = some (.ins C dx' fs') ∧ fs'.length < 1000 ∧ D.nx σ (upd H3 a (.ins C dx' (putF f z fs')))

section
variable {X : Cx} {o e value : Expr} {f : Str} {pos pos' tpos : Pos} {ta tv : TE}
theorem pe_fld (he : PE X e ta) (hb : attributeBase e f X.env (eval e X.env) = eval e X.env) : PE X (.Attribute e f pos) (tFld X.K ta f) := by
  intro pins s σ H Q I h
  (refine attr_of hb (thn (he pins s σ H _ I h) ?_); rintro u s1 ⟨x, H1, I1, rx, a, C, dx, fs, v, ex, ea, c, n, l, q⟩)
  subst ex
  obtain rfl : u = Value.ref a := rx
  exact getattr_ok I1 ea c n l fun u' s2 I2 ru => ⟨v, H1, I2, ru, q⟩
theorem ps_fld (ha : PE X o ta) (hv : PE X value tv) (hs : swapsWith value (some (.Attribute o f pos')) pos.line X.env = pure false) : PS X (.Assign [.Attribute o f pos'] value pos) (sFld X.K ta tv f) := by
  intro pins s σ H D I h
  (refine plainObj_wpAny_Assign_Attribute (thn (hv pins s σ H _ I h) ?_) hs; rintro u s1 ⟨y, H1, I1, ry, q⟩; refine thn (ha pins s1 σ H1 _ I1 q) ?_; rintro ov s2 ⟨x, H2, I2, rx, a, C, dx, fs, ex, ea, c, n, l, q2⟩)
  subst ex
  obtain rfl : ov = Value.ref a := rx
  exact setattr_ok I2 ea c n l ry fun s3 I3 => ⟨σ, _, I3, q2⟩
theorem ps_fldaug {op : Operator} {rd : V → V → Hp → VK → Prop} (ha : PE X o ta) (hv : PE X value tv) (hop : InOp X op rd) : PS X (.AugAssign (.Attribute o f tpos) op value pos) (sFldAug X.K ta tv rd f) := by
  intro pins s σ H D I h
  (refine wpAny_AugAssign_AttributeAny (thn (ha pins s σ H _ I h) ?_); rintro ov s1 ⟨x, H1, I1, rx, a, C, dx, fs, v, ex, ea, c, n, l, q⟩)
  subst ex
  obtain rfl : ov = Value.ref a := rx
  refine getattr_ok I1 ea c n l fun u s2 I2 ru => thn (hv pins s2 σ H1 _ I2 q) fun w3 s3 ⟨y, H2, I3, ry, q3⟩ => thn (hop pins s3 σ H2 v y u w3 _ I3 ru ry q3) fun w4 s4 ⟨z, H3, I4, rz, dx', fs', ea', l', q4⟩ => ?_
  exact setattr_ok I4 ea' c n l' rz fun s5 I5 => ⟨σ, _, I5, q4⟩

/-- what is between an instance and its method: the tree of a method call -/
theorem methcall_of {pl : Sem Bool} {m : Str} {apos : Pos} {args : List Expr} {pins : List (Addr × Obj)} {s : Shared} {σ : St} {H : Hp} {Q : Value → Shared → Prop} {te : TE} (he : PE X e te) (I : Inv X pins σ H s)
    (h : te σ H fun x H1 => ∃ a C dx fs g, x = .ref a ∧ H1 a = some (.ins C dx fs) ∧ Cls X.K C ∧ Meth X.K C m g ∧ fs.lookup m = none ∧
      ∀ s1, Inv X pins σ H1 s1 → wpAny (model X.prog X.w) X.A (callWith pos (.ref g) [.ref a] (backTo pos (starEach args X.env)) (backToKw pos (keywordEach [] X.env))) Q X.xe s1)
    (ht : eval (.Call (.Attribute e m apos) args [] pos) X.env = (do
      let ov ← eval e X.env
      standAt apos.atName
      let (f, first) ← holding [ov] (getMethod ov m pl)
      callWith pos f first (backTo pos (starEach args X.env)) (backToKw pos (keywordEach [] X.env)))) :
    wpAny (model X.prog X.w) X.A (eval (.Call (.Attribute e m apos) args [] pos) X.env) Q X.xe s := by
  (refine PySem.W.methodCall_KW (pl := pl) (thn (he pins s σ H _ I h) ?_) ht; rintro u s1 ⟨x, H1, I1, rx, a, C, dx, fs, g, ex, ea, c, k, l, q⟩)
  subst ex
  obtain rfl : u = Value.ref a := rx
  exact getmeth_ok I1 ea c k l (q s1 I1)
end

/-! ### isinstance -/
section
variable {X : Cx} {pins : List (Addr × Obj)} {σ : St} {H : Hp} {s : Shared} {A : Around} {E : Value → Shared → Prop} {Q : Value → Shared → Prop} {c : Value} {b : Bool}
/-- the type of a value, as the fragment's deciders take it; for an instance its class -/
inductive TyOf (K : PySem.W.Frag) (H : Hp) : V → Value → Prop where
  | non : TyOf K H .non (.type "NoneType")
  | bl (x : Bool) : TyOf K H (.bl x) (.type "bool")
  | int (i : Int) : TyOf K H (.int i) (.type "int")
  | str (x : Str) : TyOf K H (.str x) (.type "str")
  | flt (x : UInt64) : TyOf K H (.flt x) (.type "float")
  | lst {a : Addr} {xs : List V} (e : H a = some (.lst xs)) : TyOf K H (.ref a) (.type "list")
  | frz {a : Addr} {o : Obj} {xs : List V} (e : H a = some (.frz o (.lst xs))) : TyOf K H (.ref a) (.type "list")
  | tup {a : Addr} {xs : List V} (e : H a = some (.tup xs)) : TyOf K H (.ref a) (.type "tuple")
  | dK {a : Addr} {kvs : List (Key × V)} (e : H a = some (.dK kvs)) : TyOf K H (.ref a) (.type "dict")
  | dT {a : Addr} {kvs : List (List Key × V)} (e : H a = some (.dT kvs)) : TyOf K H (.ref a) (.type "dict")
  | ins {a C dx : Addr} {fs : List (Str × V)} (e : H a = some (.ins C dx fs)) (cl : Cls K C) (ha : PySem.W.findIn K (.ref C) "__class__" = some (some (.builtin "object.__class__")))
      (hn : PySem.W.specialIn K (.builtin "object.__class__") "__get__" = some (some (.builtin "getset_descriptor.__get__"))) (htk : PySem.W.takesIn K (.builtin "object.__class__") = some true)
      (hm : PySem.W.mroIn K C (.type "object") = some true) : TyOf K H (.ref a) (.ref C)
/-- isinstance(x, c) for one class c, a built-in or an own one: kitOne's answer -/
theorem isinst_ok {x : V} {u t : Value} (I : Inv X pins σ H s) (rx : RelV x u) (ty : TyOf X.K H x t) (e : PySem.W.kitOne X.K t c = some b) (h : ∀ tk, Q (.bool b) { s with toks := tk }) :
    wpAny (model X.prog X.w) A (call (.builtin "isinstance") [u, c]) Q E s := by
  cases ty with
  | non => cases (show u = Value.none from rx); exact PySem.W.kia_one PySem.W.kitx_none I.kIn True.intro e (fun z => nomatch z) h
  | bl y => cases (show u = Value.bool y from rx); exact PySem.W.kia_one PySem.W.kitx_bool I.kIn True.intro e (fun z => nomatch z) h
  | int i => obtain ⟨t, q⟩ := (show ∃ t, u = Value.int i t from rx); cases q; exact PySem.W.kia_one PySem.W.kitx_int I.kIn True.intro e (fun z => nomatch z) h
  | str y => obtain ⟨t, q⟩ := (show ∃ t, u = Value.str y t from rx); cases q; exact PySem.W.kia_one PySem.W.kitx_str I.kIn True.intro e (fun z => nomatch z) h
  | flt y => obtain ⟨t, q⟩ := (show ∃ t, u = Value.float y t from rx); cases q; exact PySem.W.kia_one PySem.W.kitx_float I.kIn True.intro e (fun z => nomatch z) h
  | @lst a xs ea =>
    cases (show u = Value.ref a from rx)
    obtain ⟨_, _, n, _, h1⟩ := (show ObjOk X.prog X.w H s.heap a (.lst xs) from I.hok a _ ea)
    exact PySem.W.kia_one PySem.W.kitx_list I.kIn ⟨_, h1, rfl⟩ e (fun z => nomatch z) h
  | @frz a ob xs ea =>
    cases (show u = Value.ref a from rx)
    obtain ⟨_, _, _, n, _, h1⟩ := (show ObjOk X.prog X.w H s.heap a (.frz ob (.lst xs)) from I.hok a _ ea)
    exact PySem.W.kia_one PySem.W.kitx_list I.kIn ⟨_, h1, rfl⟩ e (fun z => nomatch z) h
  | @tup a xs ea =>
    cases (show u = Value.ref a from rx)
    obtain ⟨_, _, _, p⟩ := (show ObjOk X.prog X.w H s.heap a (.tup xs) from I.hok a _ ea)
    obtain ⟨o, h1, h2, _⟩ := p
    exact PySem.W.kia_one PySem.W.kitx_tuple I.kIn ⟨o, h1, h2⟩ e (fun z => nomatch z) h
  | @dK a kvs ea =>
    cases (show u = Value.ref a from rx)
    obtain ⟨_, _, vs, _, p⟩ := (show ObjOk X.prog X.w H s.heap a (.dK kvs) from I.hok a _ ea)
    obtain ⟨o, es, ep, h1, h2, _⟩ := p
    exact PySem.W.kia_one PySem.W.kitx_dict I.kIn ⟨o, h1, h2.1⟩ e (fun z => nomatch z) h
  | @dT a kvs ea =>
    cases (show u = Value.ref a from rx)
    obtain ⟨_, _, xs, _, o, es, ep, h1, h2, _⟩ := (show ObjOk X.prog X.w H s.heap a (.dT kvs) from I.hok a _ ea)
    exact PySem.W.kia_one PySem.W.kitx_dict I.kIn ⟨o, h1, h2.1⟩ e (fun z => nomatch z) h
  | @ins a C dx fs ea cl ha hn htk hm =>
    cases (show u = Value.ref a from rx)
    obtain ⟨mA, O, _⟩ := ins_get I.hok ea
    obtain ⟨od, J, _⟩ := O.look
    exact PySem.W.kia_one (PySem.W.kitx_own (cl.get _) cl.hd ha hn htk hm) I.kIn J e (fun z => nomatch z) h
end
end L2

namespace L2
open PySem PySem.Spec PyProof.Rows

/-! ### room -/
structure Room (k : Nat) (A : Around) : Prop where
  hd : A.handled = none
  dp : A.depth + 3 * k + 5 < recursionLimit
  un : A.units + 16 * k + 200 < cLine
theorem Room.mono {j k : Nat} {A : Around} (r : Room k A) (h : j ≤ k) : Room j A := ⟨r.hd, by have := r.dp; omega, by have := r.un; omega⟩
theorem Room.deeper {k : Nat} {A : Around} (r : Room (k + 1) A) (env : Env) : Room k (A.deeper env) :=
  ⟨r.hd, by have := r.dp; show A.depth + 1 + 3 * k + 5 < _; omega, by have := r.un; show A.units + 3 + 16 * k + 200 < _; omega⟩
theorem make_depth {A : Around} {C : Addr} {us : List Value} {kw : List (Str × Value)} : (A.under (.builtin "type.__call__" ⟨.ref C :: us, kw⟩)).depth = A.depth + 1 := by
  first | rfl | simp [Around.under, Code.weight, Code.isCreation, Code.isGuard, Code.isCaller, Code.frames, Code.isFrame, guardIds]
theorem make_units {A : Around} {C : Addr} {us : List Value} {kw : List (Str × Value)} : (A.under (.builtin "type.__call__" ⟨.ref C :: us, kw⟩)).units = A.units + 1 := by
  first | rfl | simp [Around.under, Code.cUnits, Code.frames, Code.isFrame]
theorem Room.make {k : Nat} {A : Around} (r : Room (k + 1) A) (C : Addr) (us : List Value) (kw : List (Str × Value)) : Room k (A.under (.builtin "type.__call__" ⟨.ref C :: us, kw⟩)) :=
  ⟨r.hd, by have := r.dp; rw [make_depth]; omega, by have := r.un; rw [make_units]; omega⟩
theorem Room.depth {k : Nat} {A : Around} (r : Room k A) : A.depth < recursionLimit := by have := r.dp; omega
theorem Room.units {k : Nat} {A : Around} (r : Room k A) : A.units + 64 < cLine := by have := r.un; omega

/-! ### argument lists and displays -/
noncomputable def tNil : TA := fun _ H Q => Q [] H
noncomputable def tCons (ta : TE) (tr : TA) : TA := fun σ H Q => ta σ H fun x H1 => tr σ H1 fun xs H2 => Q (x :: xs) H2
section
variable {X : Cx} {e : Expr} {es : List Expr} {te : TE} {t : TA} {pos : Pos}
theorem pa_nil : PA X [] tNil := fun _ _ _ _ H Q I h => Calls.spliced_nil ⟨[], H, I, .nil, h⟩
theorem pa_cons (ha : PE X e te) (hr : PA X es t) (hs : starEach (e :: es) X.env = (false, eval e X.env) :: starEach es X.env := by rfl) : PA X (e :: es) (tCons te t) := by
  intro pos pins s σ H Q I h
  rw [hs]
  show wpAny _ _ (spliced ((false, eval e X.env) :: backTo pos (starEach es X.env))) _ _ s
  (refine Calls.spliced_cons (thn (ha pins s σ H _ I h) ?_); rintro u s1 ⟨x, H1, I1, r1, q1⟩)
  (refine thn (hr pos pins s1 σ H1 _ I1 q1) ?_; rintro us s2 ⟨xs, H2, I2, r2, q2⟩; exact ⟨x :: xs, H2, I2, .cons r1 r2, q2⟩)

/-- a tuple, a list of written items -/
noncomputable def tTup (t : TA) : TE := fun σ H Q => t σ H fun xs H1 => xs.length ≤ sizeLine ∧ ∀ p, H1 p = none → Q (.ref p) (upd H1 p (.tup xs))
noncomputable def tLst (t : TA) : TE := fun σ H Q => t σ H fun xs H1 => xs.length ≤ sizeLine ∧ ∀ p, H1 p = none → Q (.ref p) (upd H1 p (.lst xs))
theorem pe_tup {x1} (h : PA X es t) : PE X (.Tuple es x1 pos) (tTup t) := by
  intro pins s σ H Q I hq
  refine wpAny_Tuple_spliced (thn (h pos pins s σ H _ I hq) fun us s1 ⟨xs, H1, I1, r, z, q⟩ => ⟨by rw [← r.length]; exact z, ?_⟩)
  have hf : H1 s1.heap.objs.size = none := I1.hok.fresh (Nat.le_refl _)
  refine ⟨.ref s1.heap.objs.size, upd H1 s1.heap.objs.size (.tup xs), I1.laid (t' := s1.toks) (fun b u e => Heap.get?_push_of_some _ e) (Nat.le_refl _) ?_, rfl, q _ hf⟩
  exact ⟨z, us, r, ⟨_, Heap.get?_push_size _ rfl, rfl, _, rfl⟩⟩
theorem pe_lst (h : PA X es t) : PE X (.List es pos) (tLst t) := by
  intro pins s σ H Q I hq
  refine wpAny_List_spliced (thn (h pos pins s σ H _ I hq) fun us s1 ⟨xs, H1, I1, r, z, q⟩ => ⟨by rw [← r.length]; exact z, ?_⟩)
  have hf : H1 s1.heap.objs.size = none := I1.hok.fresh (Nat.le_refl _)
  refine ⟨.ref s1.heap.objs.size, upd H1 s1.heap.objs.size (.lst xs), I1.laid (t' := s1.toks) (fun b u e => Heap.get?_push_of_some _ e) (Nat.le_refl _) ?_, rfl, q _ hf⟩
  exact ⟨z, us, 0, r, Heap.get?_push_size _ rfl⟩
end

/-! ### what a def promises -/
/-- a def's promise: the bound arguments in the parameters' order, the heap, the wanted end, the wanted exception -/
noncomputable abbrev Sp := List V → Hp → VK → XK → Prop
/-- how an exception lies behind a call (file 08 gives it): the callers' frames, abstract heap and state ahead of the call, the wish, the exception, the state -/
noncomputable abbrev CXT := List Env → Hp → Shared → XK → Value → Shared → Prop

/-- the state at a call -/
structure Env0 (P : Program) (w : World) (K : PySem.W.Frag) (mg : Str → Option Value) (base : Heap) (A : Around) (outer : List Env) (s : Shared) (H : Hp) : Prop where
  frames : A.frames = some outer
  mod : Mod K mg base
  bs : ∀ b o, base.get? b = some o → s.heap.get? b = some o ∧ H b = none
  bsz : base.objs.size ≤ s.heap.objs.size
  funs : s.heap.FunFrames base outer
  frf : ∀ b ∈ frs outer, H b = none
  hok : HOk P w H s.heap
  bare : AllBare s.gens
/-- a call's end -/
noncomputable def CE (outer : List Env) (P : Program) (w : World) (H : Hp) (s : Shared) (Q : VK) (u : Value) (s' : Shared) : Prop :=
  ∃ v H', s'.os = s.os ∧ AllBare s'.gens ∧ Un (frs outer) [] H H' s.heap s'.heap ∧ HOk P w H' s'.heap ∧ RelV v u ∧ Q v H'
noncomputable def CR (CX : CXT) (outer : List Env) (P : Program) (w : World) (H : Hp) (s : Shared) (Q : VK) (E : XK) (r : Result) (s' : Shared) : Prop :=
  match r with
  | .ok (.ret u) => CE outer P w H s Q u s'
  | .ok _ => False
  | .error e => CX outer H s E e s'
structure FnOk (P : Program) (w : World) (K : PySem.W.Frag) (mg : Str → Option Value) (base : Heap) (CX : CXT) (k : Nat) (f : Addr) (fd : FuncData) (ps : List Str) (sp : Sp) : Prop where
  len : ∀ vs H Q E, sp vs H Q E → vs.length = ps.length
  run : ∀ (A : Around) (outer : List Env) (s : Shared) (H : Hp) (args : Args) (us : List Value) (vs : List V) (Q : VK) (E : XK), Room k A → Env0 P w K mg base A outer s H → BindsTo s fd args (ps.zip us) → Vals vs us → sp vs H Q E →
    codeAny (model P w) A (.call (.ref f) args) (CR CX outer P w H s Q E) s
theorem FnOk.mono {P : Program} {w : World} {K : PySem.W.Frag} {mg : Str → Option Value} {base : Heap} {CX : CXT} {j k : Nat} {f : Addr} {fd : FuncData} {ps : List Str} {sp : Sp} (F : FnOk P w K mg base CX j f fd ps sp) (h : j ≤ k) :
    FnOk P w K mg base CX k f fd ps sp := ⟨F.len, fun A outer s H args us vs Q E hr => F.run A outer s H args us vs Q E (hr.mono h)⟩

theorem Env0.make {P : Program} {w : World} {K : PySem.W.Frag} {mg : Str → Option Value} {base : Heap} {A : Around} {outer : List Env} {s : Shared} {H : Hp} (e : Env0 P w K mg base A outer s H) (C : Addr) (us : List Value) (kw : List (Str × Value)) :
    Env0 P w K mg base (A.under (.builtin "type.__call__" ⟨.ref C :: us, kw⟩)) outer s H := ⟨by first | exact e.frames | (simpa [Around.under, Code.envs, Code.isFrame, pushEnvs] using e.frames), e.mod, e.bs, e.bsz, e.funs, e.frf, e.hok, e.bare⟩

section
variable {X : Cx} {pins : List (Addr × Obj)} {σ : St} {H : Hp} {s s' : Shared}
/-- from a body: what a callee wants -/
theorem Inv.env0 (I : Inv X pins σ H s) : Env0 X.prog X.w X.K X.mg X.base X.A X.stack s H :=
  ⟨I.ok.frames, I.ok.mod, I.bs, Nat.le_trans I.ok.bsz I.sz, I.stack, I.stkFree, I.hok, I.bare⟩
/-- behind a call -/
theorem Inv.after {Q : VK} {u : Value} (I : Inv X pins σ H s) (h : CE X.stack X.prog X.w H s Q u s') : EP X pins σ Q u s' := by
  obtain ⟨v, H', os, bare, un, hok, r, q⟩ := h
  obtain ⟨hh, g, d, t, os'⟩ := s'
  obtain rfl : os' = s.os := os
  exact ⟨v, H', I.call (h' := hh) (g' := g) (d' := d) (t' := t) (ch := []) un hok bare (fun b z => absurd z (by simp)), r, q⟩
end

/-! ### calls -/
/-- f(..): the written arguments, then the defaults dvs; E: what is wanted of an exception -/
noncomputable def tCall (sp : Sp) (dvs : List V) (E : XK) (t : TA) : TE := fun σ H Q => t σ H fun vs H1 => sp (vs ++ dvs) H1 Q E
/-- o.m(..) of an instance of the class at C -/
noncomputable def tMeth (C : Addr) (m : Str) (sp : Sp) (dvs : List V) (E : XK) (ta : TE) (t : TA) : TE := fun σ H Q => ta σ H fun x H1 => ∃ a dx fs, x = .ref a ∧ H1 a = some (.ins C dx fs) ∧ fs.lookup m = none ∧
  t σ H1 fun vs H2 => sp (x :: (vs ++ dvs)) H2 Q E
/-- C(..): a new instance and its dict, then __init__ -/
noncomputable def tMake (C : Addr) (sp : Sp) (dvs : List V) (E : XK) (t : TA) : TE := fun σ H Q => t σ H fun vs H1 => ∀ x dx, H1 x = none → H1 dx = none → dx ≠ x →
  sp (.ref x :: (vs ++ dvs)) (upd (upd H1 dx (.own x)) x (.ins C dx [])) (fun v H2 => v = .non ∧ Q (.ref x) H2) E

/-- how the parameters are bound: us the positional arguments, kw the keywords' values by name, ds the defaults that fill up -/
noncomputable def Binds (K : PySem.W.Frag) (fd : FuncData) (ps : List Str) (ds : List Value) : Prop :=
  ∀ (s : Shared) (us : List Value), K.In s.heap → (us ++ ds).length = ps.length → BindsTo s fd ⟨us, []⟩ (ps.zip (us ++ ds))
/-- every parameter is given -/
theorem Binds.all {K : PySem.W.Frag} {fd : FuncData} {ps : List Str} (h : ∀ us : List Value, us.length = ps.length → bindArgs fd ⟨us, []⟩ = pure (ps.zip us)) : Binds K fd ps [] := fun s us _ hl => by
  rw [List.append_nil] at hl ⊢
  exact .of_eq (h us hl)

/-- an exception of a callee reaches what this body wants of exceptions -/
noncomputable def Passes (CX : CXT) (X : Cx) (E : XK) : Prop := ∀ (pins : List (Addr × Obj)) (σ : St) (H : Hp) (s : Shared) (e : Value) (s' : Shared), Inv X pins σ H s → CX X.stack H s E e s' → X.xe e s'

section
variable {X : Cx} {CX : CXT} {k : Nat} {f C : Addr} {fd : FuncData} {ps : List Str} {sp : Sp} {dvs : List V} {ds : List Value} {E : XK} {x m : Str} {p pos apos : Pos} {e o : Expr} {es : List Expr} {ta : TE} {t : TA}

/-- the callee runs -/
theorem run_fn {pins : List (Addr × Obj)} {σ : St} {H : Hp} {s : Shared} {Q : VK} {us : List Value} {vs : List V} (F : FnOk X.prog X.w X.K X.mg X.base CX k f fd ps sp) (hr : Room k X.A) (hb : Binds X.K fd ps ds) (hd : Vals dvs ds) (hx : Passes CX X E)
    (I : Inv X pins σ H s) (r : Vals vs us) (h : sp (vs ++ dvs) H Q E) : wpAny (model X.prog X.w) X.A (call (.ref f) us) (EP X pins σ Q) X.xe s := by
  have r2 : Vals (vs ++ dvs) (us ++ ds) := r.append hd
  have hl : (us ++ ds).length = ps.length := by rw [← r2.length]; exact F.len _ _ _ _ h
  refine wpAny_call (codeAny_mono (F.run X.A X.stack s H ⟨us, []⟩ (us ++ ds) (vs ++ dvs) Q E hr I.env0 (hb s us I.kIn hl) r2 h) fun r s' hq => ?_)
  cases r with
  | error e => exact hx pins σ H s e s' I hq
  | ok fl =>
    cases fl with
    | ret u => exact I.after hq
    | next => exact False.elim hq
    | brk => exact False.elim hq
    | cont => exact False.elim hq

theorem pe_call (F : FnOk X.prog X.w X.K X.mg X.base CX k f fd ps sp) (hr : Room k X.A) (hg : Gl X x) (hm : X.mg x = some (.ref f)) (hk : PySem.W.keepIn X.K (.ref f) = true) (hb : Binds X.K fd ps ds) (hd : Vals dvs ds) (hx : Passes CX X E)
    (ha : PA X (e :: es) t) (hdb : (x == ("__debug__" : Str)) = false := by decide) (he : starEach (e :: es) X.env = (false, eval e X.env) :: starEach es X.env := by rfl) (hpl : (backTo pos (starEach es X.env)).any (·.1) = false := by rfl) :
    PE X (.Call (.Name x p) (e :: es) [] pos) (tCall sp dvs E t) := by
  intro pins s σ H Q I h
  refine wpAny_Call_Name_kw (ld_glob I hg hm ?_ hdb)
  (refine PySem.W.callWith_K (h₀ := X.base) I.ok.mod.kin hk (thn (ha pos pins s σ H _ I h) ?_) he hpl; rintro us s1 ⟨vs, H1, I1, r, q⟩; refine ⟨I1.kIn, ?_⟩)
  exact run_fn F hr hb hd hx I1 r q

/-- o.m(e, ..) -/
theorem pe_meth {pl : Sem Bool} (he : PE X o ta) (c : Cls X.K C) (hm : Meth X.K C m f) (F : FnOk X.prog X.w X.K X.mg X.base CX k f fd ps sp) (hr : Room k X.A) (hb : Binds X.K fd ps ds) (hd : Vals dvs ds) (hx : Passes CX X E) (ha : PA X (e :: es) t)
    (hst : starEach (e :: es) X.env = (false, eval e X.env) :: starEach es X.env := by rfl) (hpl : (backTo pos (starEach es X.env)).any (·.1) = false := by rfl)
    (ht : eval (.Call (.Attribute o m apos) (e :: es) [] pos) X.env = (do
      let ov ← eval o X.env
      standAt apos.atName
      let (f, first) ← holding [ov] (getMethod ov m pl)
      callWith pos f first (backTo pos (starEach (e :: es) X.env)) (backToKw pos (keywordEach [] X.env))) := by rfl) :
    PE X (.Call (.Attribute o m apos) (e :: es) [] pos) (tMeth C m sp dvs E ta t) := by
  intro pins s σ H Q I h
  (refine PySem.W.methodCall_KW (pl := pl) (thn (he pins s σ H _ I h) ?_) ht; rintro u s1 ⟨x, H1, I1, rx, a, dx, fs, ex, ea, l, q⟩)
  subst ex
  obtain rfl : u = Value.ref a := rx
  refine getmeth_ok I1 ea c hm l ?_
  (refine PySem.W.callWith_K (first := [.ref a]) (h₀ := X.base) I.ok.mod.kin hm.kp (thn (ha pos pins s1 σ H1 _ I1 q) ?_) hst hpl; rintro us s2 ⟨vs, H2, I2, r, q2⟩; refine ⟨I2.kIn, ?_⟩)
  exact run_fn (us := .ref a :: us) (vs := .ref a :: vs) F hr hb hd hx I2 (.cons rfl r) q2
/-- o.m() -/
theorem pe_meth0 {pl : Sem Bool} (he : PE X o ta) (c : Cls X.K C) (hm : Meth X.K C m f) (F : FnOk X.prog X.w X.K X.mg X.base CX k f fd ps sp) (hr : Room k X.A) (hb : Binds X.K fd ps ds) (hd : Vals dvs ds) (hx : Passes CX X E)
    (ht : eval (.Call (.Attribute o m apos) [] [] pos) X.env = (do
      let ov ← eval o X.env
      standAt apos.atName
      let (f, first) ← holding [ov] (getMethod ov m pl)
      callWith pos f first (backTo pos (starEach [] X.env)) (backToKw pos (keywordEach [] X.env))) := by rfl) :
    PE X (.Call (.Attribute o m apos) [] [] pos) (tMeth C m sp dvs E ta tNil) := by
  intro pins s σ H Q I h
  (refine PySem.W.methodCall_KW (pl := pl) (thn (he pins s σ H _ I h) ?_) ht; rintro u s1 ⟨x, H1, I1, rx, a, dx, fs, ex, ea, l, q⟩)
  subst ex
  obtain rfl : u = Value.ref a := rx
  refine getmeth_ok I1 ea c hm l ?_
  exact PySem.W.callWith_K0 (first := [.ref a]) I1.kIn hm.kp (run_fn (us := [.ref a]) (vs := [.ref a]) F hr hb hd hx I1 (.cons rfl .nil) q)

/-- what a class must have to be made -/
structure Mk (K : PySem.W.Frag) (C f : Addr) : Prop where
  makes : PySem.W.makesIn K C = true
  init : PySem.W.findIn K (.ref C) "__init__" = some (some (.ref f))
  fn : PySem.W.isFn K (.ref f) = true
  kp : PySem.W.keepIn K (.ref C) = true

theorem run_make {pins : List (Addr × Obj)} {σ : St} {H : Hp} {s : Shared} {Q : VK} {us : List Value} {vs : List V} (M : Mk X.K C f) (F : FnOk X.prog X.w X.K X.mg X.base CX k f fd ps sp) (hr : Room (k + 1) X.A) (hb : Binds X.K fd ps ds) (hd : Vals dvs ds)
    (hx : Passes CX X E) (I : Inv X pins σ H s) (r : Vals vs us)
    (h : ∀ x dx, H x = none → H dx = none → dx ≠ x → sp (.ref x :: (vs ++ dvs)) (upd (upd H dx (.own x)) x (.ins C dx [])) (fun v H2 => v = .non ∧ Q (.ref x) H2) E) :
    wpAny (model X.prog X.w) X.A (call (.ref C) us) (EP X pins σ Q) X.xe s := by
  have hq := h (s.heap.objs.size + 1) s.heap.objs.size (I.hok.fresh (Nat.le_succ _)) (I.hok.fresh (Nat.le_refl _)) (Nat.ne_of_lt (Nat.lt_succ_self _))
  have I2 := Inv.made (C := C) I
  have r2 : Vals (V.ref (s.heap.objs.size + 1) :: (vs ++ dvs)) (Value.ref (s.heap.objs.size + 1) :: (us ++ ds)) := .cons rfl (r.append hd)
  have hl : (Value.ref (s.heap.objs.size + 1) :: us ++ ds).length = ps.length := by
    have e := r2.length
    rw [F.len _ _ _ _ hq] at e
    exact e.symm
  refine wpAny_call (make_map (f := f) I.kIn M.makes M.init (beq_iff_eq.mp M.fn) (codeAny_mono (F.run _ X.stack _ _ ⟨Value.ref (s.heap.objs.size + 1) :: us, []⟩ (Value.ref (s.heap.objs.size + 1) :: (us ++ ds)) _ _ E (hr.make C us [])
    (I2.env0.make C us []) (hb _ (Value.ref (s.heap.objs.size + 1) :: us) I2.kIn hl) r2 hq) fun r s' hq' => ?_))
  cases r with
  | error e => exact hx pins σ _ _ e s' I2 hq'
  | ok fl =>
    cases fl with
    | ret u =>
      obtain ⟨v, H', I3, rv, ev, q3⟩ := I2.after hq'
      subst ev
      exact ⟨rv, ⟨V.ref (s.heap.objs.size + 1), H', I3, rfl, q3⟩⟩
    | next => exact False.elim hq'
    | brk => exact False.elim hq'
    | cont => exact False.elim hq'
theorem pe_make (M : Mk X.K C f) (F : FnOk X.prog X.w X.K X.mg X.base CX k f fd ps sp) (hr : Room (k + 1) X.A) (hg : Gl X x) (hm : X.mg x = some (.ref C)) (hb : Binds X.K fd ps ds) (hd : Vals dvs ds) (hx : Passes CX X E)
    (ha : PA X (e :: es) t) (hdb : (x == ("__debug__" : Str)) = false := by decide) (he : starEach (e :: es) X.env = (false, eval e X.env) :: starEach es X.env := by rfl) (hpl : (backTo pos (starEach es X.env)).any (·.1) = false := by rfl) :
    PE X (.Call (.Name x p) (e :: es) [] pos) (tMake C sp dvs E t) := by
  intro pins s σ H Q I h
  refine wpAny_Call_Name_kw (ld_glob I hg hm ?_ hdb)
  (refine PySem.W.callWith_K (h₀ := X.base) I.ok.mod.kin M.kp (thn (ha pos pins s σ H _ I h) ?_) he hpl; rintro us s1 ⟨vs, H1, I1, r, q⟩; refine ⟨I1.kIn, ?_⟩)
  exact run_make M F hr hb hd hx I1 r q
end

/-! ### keywords -/
section
variable {X : Cx} {CX : CXT} {k : Nat} {f C : Addr} {fd : FuncData} {ps ks : List Str} {sp : Sp} {E : XK} {x m : Str} {p pos apos kpos : Pos} {e o : Expr} {es : List Expr} {kws : List Keyword} {te ta : TE} {t tk : TA} {nm : Option Str}

/-- how a call with keywords binds: g puts the positional values us and the keywords' values ws (names ks) in the parameters' order, defaults among them -/
structure KBinds (K : PySem.W.Frag) (fd : FuncData) (ps ks : List Str) (g : List Value → List Value → List Value) (gV : List V → List V → List V) : Prop where
  to : ∀ (s : Shared) (us ws : List Value), K.In s.heap → (g us ws).length = ps.length → BindsTo s fd ⟨us, ks.zip ws⟩ (ps.zip (g us ws))
  rel : ∀ {vs : List V} {us : List Value} {zs : List V} {ws : List Value}, Vals vs us → Vals zs ws → Vals (gV vs zs) (g us ws)
variable {g : List Value → List Value → List Value} {gV : List V → List V → List V}
end

/-! ### a def's body keeps its promise -/
/-- names: the parameters first -/
structure FnScope (N P : List Str) (sc : Scope) : Prop where
  kind : sc.kind = .function
  co : sc.isCoroutine = false
  gen : sc.isGenerator = false
  nd : N.Nodup
  pre : N.take P.length = P
  par : ∀ x ∈ P, sc.names.lookup x = some .local ∨ sc.names.lookup x = some .cell
  nofree : ∀ y ∈ sc.names, y.2 ≠ .free

theorem bindL_out {kindOf : Str → Option NameKind} {x : Str} : ∀ {binds : List (Str × Value)} {m : Str → Option Value}, (∀ v, (x, v) ∉ binds) → bindL kindOf binds m x = m x
  | [], _, _ => rfl
  | (n, v) :: r, m, h => by
    unfold bindL
    rw [bindL_out fun w hw => h w (List.mem_cons_of_mem _ hw)]
    split
    · have : x ≠ n := by rintro rfl; exact h v List.mem_cons_self
      simp [this]
    · rfl
theorem bindC_out {kindOf : Str → Option NameKind} {x : Str} : ∀ {binds : List (Str × Value)} {m : Str → Option Value}, (∀ v, (x, v) ∉ binds) → bindC kindOf binds m x = m x
  | [], _, _ => rfl
  | (n, v) :: r, m, h => by
    unfold bindC
    rw [bindC_out fun w hw => h w (List.mem_cons_of_mem _ hw)]
    split
    · rfl
    · have : x ≠ n := by rintro rfl; exact h v List.mem_cons_self
      simp [this]
theorem bindL_get {kindOf : Str → Option NameKind} {x : Str} {v : Value} : ∀ {P : List Str} {vs : List Value} {i : Nat} {m : Str → Option Value}, P.Nodup → P[i]? = some x → vs[i]? = some v → kindOf x = some .local →
    bindL kindOf (P.zip vs) m x = some v
  | [], _, _, _, _, h, _, _ => by simp at h
  | _ :: _, [], _, _, _, _, h, _ => by simp at h
  | p :: P, w :: vs, 0, m, nd, h1, h2, hk => by
    simp at h1 h2; subst h1; subst h2
    show bindL kindOf ((p, w) :: P.zip vs) m p = _
    unfold bindL
    rw [bindL_out fun v hv => (List.nodup_cons.mp nd).1 (List.of_mem_zip hv).1, if_pos hk]
    simp
  | p :: P, w :: vs, i + 1, m, nd, h1, h2, hk => by
    show bindL kindOf ((p, w) :: P.zip vs) m x = _
    unfold bindL
    exact bindL_get (i := i) (List.nodup_cons.mp nd).2 (by simpa using h1) (by simpa using h2) hk
theorem bindC_get {kindOf : Str → Option NameKind} {x : Str} {v : Value} : ∀ {P : List Str} {vs : List Value} {i : Nat} {m : Str → Option Value}, P.Nodup → P[i]? = some x → vs[i]? = some v → kindOf x ≠ some .local →
    bindC kindOf (P.zip vs) m x = some v
  | [], _, _, _, _, h, _, _ => by simp at h
  | _ :: _, [], _, _, _, _, h, _ => by simp at h
  | p :: P, w :: vs, 0, m, nd, h1, h2, hk => by
    simp at h1 h2; subst h1; subst h2
    show bindC kindOf ((p, w) :: P.zip vs) m p = _
    unfold bindC
    rw [bindC_out fun v hv => (List.nodup_cons.mp nd).1 (List.of_mem_zip hv).1, if_neg hk]
    simp
  | p :: P, w :: vs, i + 1, m, nd, h1, h2, hk => by
    show bindC kindOf ((p, w) :: P.zip vs) m x = _
    unfold bindC
    exact bindC_get (i := i) (List.nodup_cons.mp nd).2 (by simpa using h1) (by simpa using h2) hk

/-- the names' values at the entry -/
noncomputable def start (N : List Str) (vs : List V) : St := vs.map some ++ List.replicate (N.length - vs.length) none

/-- the context of a def's body, at its entry; an exception leaves the frame, then lies as CX says -/
noncomputable def cxOf (CX : CXT) (P : Program) (w : World) (K : PySem.W.Frag) (mg : Str → Option Value) (base : Heap) (N : List Str) (qual : Str) (scope : Scope) (f : Addr) (cd : Value) (A : Around) (outer : List Env) (s : Shared) (H : Hp) (E : XK) : Cx where
  prog := P
  w := w
  K := K
  mg := mg
  base := base
  A := A.deeper (envOfC qual scope s.heap.objs.size f cd)
  N := N
  s₀ := s
  H₀ := H
  env := envOfC qual scope s.heap.objs.size f cd
  outer := outer
  stack := envOfC qual scope s.heap.objs.size f cd :: outer
  ex := []
  calm := true
  fn := fun _ => true
  pn := []
  xe := fun e s' => wpAny (model P w) (A.deeper (envOfC qual scope s.heap.objs.size f cd)) (leaving (envOfC qual scope s.heap.objs.size f cd) e) (fun _ s'' => CX outer H s E e s'') (fun e' s'' => CX outer H s E e' s'') s'

theorem cell_has {sc : Scope} {n : Nat} {x : Str} (h : sc.names.lookup x = some .cell) : ∃ c, (cellsFrom n sc.names []).lookup x = some c := by
  have q := PySem.W.cellsFrom_some sc.names n [] (.inl h)
  exact Option.isSome_iff_exists.mp q

theorem inv_start {CX : CXT} {P : Program} {w : World} {K : PySem.W.Frag} {mg : Str → Option Value} {base : Heap} {N ps : List Str} {qual : Str} {scope : Scope} {f : Addr} {cd : Value} {A : Around} {outer : List Env} {s s1 : Shared} {H : Hp} {E : XK} {us : List Value} {vs : List V}
    (S : FnScope N ps scope) (hd : A.handled = none) (e0 : Env0 P w K mg base A outer s H) (hl : vs.length = ps.length) (r : Vals vs us)
    (x : InCallC s s.heap.objs.size (bindL (envOfC qual scope s.heap.objs.size f cd).kindOf (ps.zip us) fun _ => none) (cellsFrom (s.heap.objs.size + 1) scope.names []) (bindC (envOfC qual scope s.heap.objs.size f cd).kindOf (ps.zip us) fun _ => none) s1) :
    Inv (cxOf CX P w K mg base N qual scope f cd A outer s H E) [] (start N vs) H s1 := by
  have hpl : ps.length ≤ N.length := by have := congrArg List.length S.pre; rw [List.length_take] at this; omega
  obtain ⟨h1, tk, rfl, hk⟩ := x.done
  have noA : ∀ b : Addr, b ∉ (cxOf CX P w K mg base N qual scope f cd A outer s H E).ex := fun b z => absurd (show b ∈ ([] : List Addr) from z) (by simp)
  refine ⟨⟨e0.mod, S.kind, rfl, rfl, Nat.le_refl _, fun y z c h1 h2 => ?_, fun y hy => ?_, fun y c _ h => ?_, fun _ => hd, Around.frames_deeper e0.frames, .inr ⟨rfl, rfl⟩, fun b z => absurd z (noA b), e0.bs, e0.bsz, fun b _ _ => noA b, fun b z => absurd z (noA b), e0.funs, e0.frf⟩,
    rfl, e0.bare, Un.kept hk, ⟨_, x.toInCall.ns, fun i y v h1 h2 h3 => ?_⟩, fun y c h => ⟨_, x.cell y c h⟩, e0.hok.fresh (Nat.le_refl _), fun y c h => ?_, fun p hp => absurd (show p ∈ ([] : List (Addr × Obj)) from hp) (by simp), e0.hok.kept hk, ?_⟩
  · exact name_of_addr x.apart (PySem.mem_of_lookup h1) (PySem.mem_of_lookup h2)
  · have hy : scope.names.lookup y = some .cell ∨ scope.names.lookup y = some .free := hy
    rcases hy with hy | hy
    · exact cell_has hy
    · exact absurd rfl (S.nofree _ (PySem.mem_of_lookup hy))
  · exact Nat.le_of_lt (x.above y c (PySem.mem_of_lookup h))
  · have hi : i < vs.length := by
      unfold start at h2
      by_cases hi : i < vs.length
      · exact hi
      · rw [List.getElem?_append_right (by simpa using hi)] at h2
        rw [List.getElem?_replicate] at h2
        split at h2 <;> cases h2
    have ha : vs[i]? = some v := by
      unfold start at h2
      rw [List.getElem?_append_left (by simpa using hi), List.getElem?_map] at h2
      cases e : vs[i]? with
      | none => rw [e] at h2; cases h2
      | some a => rw [e] at h2; cases h2; rfl
    obtain ⟨u, hu, rv⟩ := r.get ha
    have hp : ps[i]? = some y := by
      rw [← S.pre, List.getElem?_take_of_lt (by omega)]; exact h1
    have ndP : ps.Nodup := by rw [← S.pre]; exact S.nd.sublist (List.take_sublist _ _)
    refine ⟨u, rv, ?_⟩
    rcases S.par y (List.mem_of_getElem? hp) with k | k
    · exact .inl ⟨k, bindL_get ndP hp hu k⟩
    · obtain ⟨c, e⟩ := cell_has (n := s.heap.objs.size + 1) k
      refine .inr ⟨.inl k, c, e, ?_⟩
      have q := x.cell y c e
      rw [bindC_get ndP hp hu (by show scope.names.lookup y ≠ _; rw [k]; decide)] at q
      exact q
  · exact e0.hok.fresh (Nat.le_of_lt (x.above y c (PySem.mem_of_lookup h)))
  · unfold start
    show _ = N.length
    rw [List.length_append, List.length_map, List.length_replicate]
    omega

/-- THE RULE: a def (or a method) of the text, by its body. The body's reading t is chosen for each entry; it is run at the parameters' values -/
theorem fn_of {CX : CXT} {P : Program} {w : World} {K : PySem.W.Frag} {mg : Str → Option Value} {base : Heap} {k : Nat} {f : Addr} {name qual : Str} {params : Arguments} {body : List Stmt} {scope : Scope} {dV kV doc pm cdv ct oc : Value} {an od : Option Addr}
    {osl : Array (Option Value)} {N ps : List Str} {sp : Sp} (lk : K.lookup f = some ⟨oc, od, .func (PySem.W.fnOf name qual params body scope dV kV doc pm an cdv ct), osl⟩) (hcd : PySem.W.codeIn K cdv qual = true) (S : FnScope N ps scope)
    (len : ∀ vs H Q E, sp vs H Q E → vs.length = ps.length)
    (hbody : ∀ (A : Around) (outer : List Env) (s : Shared) (H : Hp) (vs : List V) (Q : VK) (E : XK), Room k (A.deeper (envOfC qual scope s.heap.objs.size f cdv)) → sp vs H Q E →
      ∃ t, PSs (cxOf CX P w K mg base N qual scope f cdv A outer s H E) body t ∧ t { nx := fun _ H' => Q .non H', rt := Q } (start N vs) H) :
    FnOk P w K mg base CX (k + 1) f (PySem.W.fnOf name qual params body scope dV kV doc pm an cdv ct) ps sp := by
  refine ⟨len, fun A outer s H args us vs Q E hr e0 hb r hsp => ?_⟩
  have hl := len _ _ _ _ hsp
  have KX : K.In s.heap := e0.mod.kin.keeps fun b o e => (e0.bs b o e).1
  have lim : s.heap.NoLimit := e0.mod.nolimit.keeps fun b o e => (e0.bs b o e).1
  have hkind : ∀ y ∈ ps.zip us, scope.names.lookup y.1 = some .local ∨ (scope.names.lookup y.1 = some .cell ∧ ((cellsFrom (s.heap.objs.size + 1) scope.names []).lookup y.1).isSome = true) := fun ⟨n, v⟩ hy => by
    rcases S.par n (List.of_mem_zip hy).1 with q | q
    · exact .inl q
    · exact .inr ⟨q, PySem.W.cellsFrom_some _ _ _ (.inl q)⟩
  refine codeAny_call_function hr.depth (KX _ _ lk) rfl S.co S.gen rfl (PySem.W.codeRec_of KX hcd) (hb _ _ _ _ ?_)
  refine wpAny_newFunctionEnv_cells S.kind hkind fun env he s1 x => ?_
  subst he
  refine ⟨lim.keeps x.toInCall.keep, codeAny_func ?_⟩
  obtain ⟨t, ht, hq⟩ := hbody A outer s H vs Q E (hr.deeper _) hsp
  have I : Inv (cxOf CX P w K mg base N qual scope f cdv A outer s H E) [] (start N vs) H s1 := inv_start S hr.hd e0 hl r x
  refine wpAny_mono (ht [] s1 (start N vs) H _ I hq) (fun fl s' hs => ?_) fun e s' hs => hs
  have fin : ∀ {σ' : St} {H' : Hp} {v : V} {u : Value}, Inv (cxOf CX P w K mg base N qual scope f cdv A outer s H E) [] σ' H' s' → RelV v u → Q v H' → CE outer P w H s Q u s' :=
    fun {σ' H' v u} J rv q => ⟨v, H', J.os, J.bare, J.base, J.hok, rv, q⟩
  cases fl with
  | ret u =>
    obtain ⟨v, σ', H', J, rv, q⟩ := hs
    exact fin J rv q
  | next =>
    obtain ⟨σ', H', J, q⟩ := hs
    exact fin (v := V.non) (u := Value.none) J rfl q
  | brk =>
    obtain ⟨_, _, _, q⟩ := hs
    exact False.elim q
  | cont =>
    obtain ⟨_, _, _, q⟩ := hs
    exact False.elim q
end L2

namespace L2
open PySem PySem.Spec PyProof.Rows
section
variable {X : Cx} {x : Str} {p pos : Pos} {e : Expr} {es : List Expr} {t : TA} {id T : String} {r : List V → Hp → VK → Prop}

noncomputable def tCB (r : List V → Hp → VK → Prop) (t : TA) : TE := fun σ H Q => t σ H fun vs H1 => r vs H1 Q
/-- f(e, ..), f a built-in function -/
theorem pe_callB (hc : CallR X (.builtin id) r) (hg : Gl X x) (hm : X.mg x = none) (hv : bootBuiltins x = some (.builtin id)) (ha : PA X (e :: es) t) (hn : x ≠ "__name__" := by decide) (hdb : (x == ("__debug__" : Str)) = false := by decide)
    (he : starEach (e :: es) X.env = (false, eval e X.env) :: starEach es X.env := by rfl) (hpl : (backTo pos (starEach es X.env)).any (·.1) = false := by rfl) : PE X (.Call (.Name x p) (e :: es) [] pos) (tCB r t) := by
  intro pins s σ H Q I h
  refine wpAny_Call_Name_kw (ld_blt I hg hm hv ?_ hn hdb)
  (refine PyProof.Rows.callWith_builtin1 (thn (ha pos pins s σ H _ I h) ?_) he hpl; rintro us s1 ⟨vs, H1, I1, r1, q1⟩; exact hc pins s1 σ H1 vs us Q I1 r1 q1)
/-- T(e, ..), T a built-in type -/
theorem pe_callTy (hc : CallR X (.type T) r) (hg : Gl X x) (hm : X.mg x = none) (hv : bootBuiltins x = some (.type T)) (ha : PA X (e :: es) t) (hn : x ≠ "__name__" := by decide) (hdb : (x == ("__debug__" : Str)) = false := by decide)
    (he : starEach (e :: es) X.env = (false, eval e X.env) :: starEach es X.env := by rfl) (hpl : (backTo pos (starEach es X.env)).any (·.1) = false := by rfl) : PE X (.Call (.Name x p) (e :: es) [] pos) (tCB r t) := by
  intro pins s σ H Q I h
  refine wpAny_Call_Name_kw (ld_blt I hg hm hv ?_ hn hdb)
  (refine PyProof.Rows.callWith_type1 (thn (ha pos pins s σ H _ I h) ?_) he hpl; rintro us s1 ⟨vs, H1, I1, r1, q1⟩; exact hc pins s1 σ H1 vs us Q I1 r1 q1)
end
end L2

namespace L2
open PySem PySem.Spec PyProof.Rows

/-! ### lists of pairs as tables -/
section
variable {κ : Type} [DecidableEq κ]
noncomputable def valV (kvs : List (κ × V)) (k : κ) : Option V := (kvs.find? fun kv => decide (kv.1 = k)).map (·.2)
/-- in its place, or at the end -/
noncomputable def putK (kvs : List (κ × V)) (k : κ) (v : V) : List (κ × V) :=
  if (kvs.any fun kv => decide (kv.1 = k)) = true then kvs.map (fun kv => if kv.1 = k then (kv.1, v) else kv) else kvs ++ [(k, v)]

theorem valV_pos {p : κ × V} {r : List (κ × V)} {k : κ} (e : p.1 = k) : valV (p :: r) k = some p.2 := by simp [valV, List.find?_cons, e]
theorem valV_neg {p : κ × V} {r : List (κ × V)} {k : κ} (e : ¬ p.1 = k) : valV (p :: r) k = valV r k := by simp [valV, List.find?_cons, e]

theorem RelO.getD {o : Option V} {u : Option Value} {d : V} {d' : Value} (r : RelO o u) (rd : RelV d d') : RelV (o.getD d) (u.getD d') := by
  cases o with
  | none => cases u with
    | none => exact rd
    | some _ => exact (show False from r).elim
  | some _ => cases u with
    | none => exact (show False from r).elim
    | some _ => exact r

/-- raw tables of the same keys -/
theorem KV.val {kvs : List (κ × V)} {vs : List (κ × Value)} (r : KV kvs vs) (k : κ) : RelO (valV kvs k) (valueAt vs k) := by
  unfold KV at r
  induction r with
  | nil => exact True.intro
  | @cons p q ps qs h t ih =>
    obtain ⟨h1, h2⟩ := h
    by_cases e : p.1 = k
    · have e' : q.1 = k := h1.symm.trans e
      have b : valueAt (q :: qs) k = some q.2 := by simp [valueAt, List.find?_cons, e']
      rw [valV_pos e, b]; exact h2
    · have e' : ¬ q.1 = k := fun z => e (h1.trans z)
      have b : valueAt (q :: qs) k = valueAt qs k := by simp [valueAt, List.find?_cons, e']
      rw [valV_neg e, b]; exact ih
theorem KV.any {kvs : List (κ × V)} {vs : List (κ × Value)} (r : KV kvs vs) (k : κ) : (kvs.any fun kv => decide (kv.1 = k)) = vs.any fun kv => decide (kv.1 = k) := by
  unfold KV at r
  induction r with
  | nil => rfl
  | cons h t ih => rw [List.any_cons, List.any_cons, ih, h.1]
theorem KV.keys {kvs : List (κ × V)} {vs : List (κ × Value)} (r : KV kvs vs) : kvs.map (·.1) = vs.map (·.1) := by
  unfold KV at r
  induction r with
  | nil => rfl
  | cons h t ih => rw [List.map_cons, List.map_cons, ih, h.1]
theorem KV.length {kvs : List (κ × V)} {vs : List (κ × Value)} (r : KV kvs vs) : kvs.length = vs.length := Paired.length r
end


/-! ### a tracked dict, its keys ints and texts or tuples of these -/

/-- raw entries of a dict with tuple keys -/
noncomputable abbrev KT (H : Hp) : List (List Key × V) → List (List Key × Addr × Value) → Prop := Paired fun p q => p.1 = q.1 ∧ H q.2.1 = some (.tup (p.1.map kV)) ∧ RelV p.2 q.2.2
theorem KT.val {H : Hp} {kvs : List (List Key × V)} {xs : List (List Key × Addr × Value)} (r : KT H kvs xs) (k : List Key) : RelO (valV kvs k) ((atKey xs k).map (·.2)) := by
  induction r with
  | nil => exact True.intro
  | @cons p q ps qs h t ih =>
    obtain ⟨h1, _, h2⟩ := h
    by_cases e : p.1 = k
    · have e' : q.1 = k := h1.symm.trans e
      have b : atKey (q :: qs) k = some q.2 := by simp [atKey, List.find?_cons, e']
      rw [valV_pos e, b]; exact h2
    · have e' : ¬ q.1 = k := fun z => e (h1.trans z)
      have b : atKey (q :: qs) k = atKey qs k := by simp [atKey, List.find?_cons, e']
      rw [valV_neg e, b]; exact ih
theorem KT.keeps {H H' : Hp} {kvs : List (List Key × V)} {xs : List (List Key × Addr × Value)} (r : KT H kvs xs) (ht : ∀ b ys, H b = some (.tup ys) → H' b = some (.tup ys)) : KT H' kvs xs :=
  Paired.mapP r fun _ _ z => ⟨z.1, ht _ _ z.2.1, z.2.2⟩

section
variable {P : Program} {w : World} {H : Hp} {h : Heap} {a : Addr}
end

/-- what the dict at a holds at the key y -/
noncomputable def DGet (H : Hp) (a : Addr) (y : V) (r : Option V) : Prop :=
  (∃ kvs k, Rd H a (.dK kvs) ∧ y = kV k ∧ r = valV kvs k) ∨ ∃ kvs k b, Rd H a (.dT kvs) ∧ y = .ref b ∧ H b = some (.tup (k.map kV)) ∧ r = valV kvs k
/-- the heap behind a[y] = v -/
noncomputable def DPut (H : Hp) (a : Addr) (y v : V) (H' : Hp) : Prop :=
  (∃ kvs k, H a = some (.dK kvs) ∧ y = kV k ∧ kvs.length < sizeLine ∧ H' = upd H a (.dK (putK kvs k v))) ∨
  ∃ kvs k b, H a = some (.dT kvs) ∧ y = .ref b ∧ H b = some (.tup (k.map kV)) ∧ kvs.length < sizeLine ∧ H' = upd H a (.dT (putK kvs k v))
theorem DGet.k {H : Hp} {a : Addr} {kvs : List (Key × V)} {k : Key} (e : H a = some (.dK kvs)) : DGet H a (kV k) (valV kvs k) := .inl ⟨kvs, k, .inl e, rfl, rfl⟩
theorem DGet.t {H : Hp} {a b : Addr} {kvs : List (List Key × V)} {k : List Key} (e : H a = some (.dT kvs)) (eb : H b = some (.tup (k.map kV))) : DGet H a (.ref b) (valV kvs k) := .inr ⟨kvs, k, b, .inl e, rfl, eb, rfl⟩
theorem DPut.k {H : Hp} {a : Addr} {kvs : List (Key × V)} {k : Key} {v : V} (e : H a = some (.dK kvs)) (hl : kvs.length < sizeLine) : DPut H a (kV k) v (upd H a (.dK (putK kvs k v))) := .inl ⟨kvs, k, e, rfl, hl, rfl⟩
theorem DPut.t {H : Hp} {a b : Addr} {kvs : List (List Key × V)} {k : List Key} {v : V} (e : H a = some (.dT kvs)) (eb : H b = some (.tup (k.map kV))) (hl : kvs.length < sizeLine) :
    DPut H a (.ref b) v (upd H a (.dT (putK kvs k v))) := .inr ⟨kvs, k, b, e, rfl, eb, hl, rfl⟩


section
variable {X : Cx} {pins : List (Addr × Obj)} {σ : St} {H : Hp} {s : Shared} {a : Addr} {y v : V} {u r : Value} {o : Option V} {A : Around} {E : Value → Shared → Prop}


end

section
variable {X : Cx} {pins : List (Addr × Obj)} {σ : St} {H : Hp} {s : Shared} {a : Addr} {kvs : List (Key × V)} {k : Key} {u : Value} {A : Around} {E : Value → Shared → Prop}
end


/-! ### readings and rules -/



section
variable {X : Cx} {o i e value : Expr} {pos pos' tpos : Pos} {td ty tv : TE}
end


/-! ### displays -/
section
variable {X : Cx} {pos : Pos}
end




/-! ### methods -/
/-- a method call o.m(e) of a built-in, with one argument: what must be seen of the text -/
structure M1 (X : Cx) (o : Expr) (m : Str) (apos : Pos) (e : Expr) (cpos : Pos) : Prop where
  base : attributeBase o m X.env (eval o X.env) = eval o X.env
  few : ((backTo cpos (starEach [e] X.env)).all (fun x => !x.1) && (backToKw cpos (keywordEach [] X.env)).all (fun x => x.1.isSome)
    && decide (([e] : List Expr).length + ([] : List Keyword).length + (if ([] : List Keyword).isEmpty then 0 else 1) < 30)) = true
  line : (apos.endLine == cpos.line) = true
  trees : backTo cpos (starEach [e] X.env) = [(false, eval e X.env)]
structure M2 (X : Cx) (o : Expr) (m : Str) (apos : Pos) (e f : Expr) (cpos : Pos) : Prop where
  base : attributeBase o m X.env (eval o X.env) = eval o X.env
  few : ((backTo cpos (starEach [e, f] X.env)).all (fun x => !x.1) && (backToKw cpos (keywordEach [] X.env)).all (fun x => x.1.isSome)
    && decide (([e, f] : List Expr).length + ([] : List Keyword).length + (if ([] : List Keyword).isEmpty then 0 else 1) < 30)) = true
  line : (apos.endLine == cpos.line) = true
  trees : backTo cpos (starEach [e, f] X.env) = [(false, eval e X.env), (false, eval f X.env)]


section
variable {X : Cx} {pins : List (Addr × Obj)} {σ : St} {H : Hp} {s : Shared} {a : Addr} {y d : V} {u r : Value} {o : Option V} {A : Around} {E : Value → Shared → Prop}
end

section
variable {X : Cx} {o e f : Expr} {apos cpos : Pos} {td ty tx : TE}
end

/-! ### dict(d): a copy -/
section
variable {X : Cx} {pins : List (Addr × Obj)} {σ : St} {H : Hp} {s : Shared} {a : Addr} {kvs : List (Key × V)} {A : Around} {E : Value → Shared → Prop}
end


section
variable {X : Cx} {pins : List (Addr × Obj)} {σ : St} {H : Hp} {s : Shared} {a : Addr} {y : V} {u : Value} {A : Around} {E : Value → Shared → Prop}
end
end L2
namespace HT
open PySem PyProof.Rows



section
open PySem.SeqAt
open PySem.AutoSeq1 (wpAny_loadPart')
open PySem.MeetsSeq PySem.MeetsSeq2 PySem.MeetsSeq3

end

section
variable {prog : Program} {w : World} {A : Around} {E : Value → Shared → Prop} {s : Shared}


/-- t + u, t not empty -/
theorem cat_tup {t b : Addr} {vs ws : List Value} {Q : Value → Shared → Prop} (ht : IsTup s.heap t vs.toArray) (hb : IsTup s.heap b ws.toArray) (hv : vs ≠ [])
    (h1 : ws = [] → Q (.ref t) s) (h2 : ws ≠ [] → Q (.ref s.heap.objs.size) { s with heap := s.heap.push { cls := .type "tuple", data := .seq (vs ++ ws).toArray } })
    (hsz : vs.length + ws.length ≤ sizeLine) : wpAny (model prog w) A (binaryOp .Add (.ref t) (.ref b)) Q E s := by
  obtain ⟨⟨cls, dd, data, sl⟩, ho, hc, n, hd⟩ := id ht
  obtain ⟨⟨cls2, dd2, data2, sl2⟩, ho2, hc2, n2, hd2⟩ := id hb
  simp only at hc hd hc2 hd2
  subst hc hd hc2 hd2
  have e : vs.toArray ++ ws.toArray = (vs ++ ws).toArray := by simp
  by_cases hw : ws = []
  · exact concat_meets ⟨_, ho, rfl⟩ ⟨_, ho2, rfl⟩ noFill_tuple_add seq_tuple_add PySem.F.slot_tuple_add PySem.F.entry_tuple_add (PySem.F.args_tuple_add_2 _ _)
      (tuple_addW1 t b vs.toArray ws.toArray n n2 dd dd2 sl sl2 (by simpa using hv) (by simp [hw])) ⟨ho, ho2, h1 hw⟩
  · refine concat_meets ⟨_, ho, rfl⟩ ⟨_, ho2, rfl⟩ noFill_tuple_add seq_tuple_add PySem.F.slot_tuple_add PySem.F.entry_tuple_add (PySem.F.args_tuple_add_2 _ _)
      (tuple_addW2 t b vs.toArray ws.toArray n n2 dd dd2 sl sl2 (by simpa using hv) (by simpa using hw) (by rw [List.size_toArray, List.size_toArray]; exact hsz)) ⟨ho, ho2, ?_⟩
    rw [e]
    exact h2 hw

/-! ### t[a:b], not the whole -/
/-- a slice's bound as a place among n (d where it is left out) -/
noncomputable def sIx (n d : Nat) : Option Int → Nat
  | none => d
  | some v => if v < 0 then (v + (n : Int)).toNat else min v.toNat n
theorem sIx_le (n d : Nat) (hd : d ≤ n) (o : Option Int) : sIx n d o ≤ n := by
  cases o with
  | none => exact hd
  | some v =>
    show (if v < 0 then (v + (n : Int)).toNat else min v.toNat n) ≤ n
    by_cases hv : v < 0
    · rw [if_pos hv]; omega
    · rw [if_neg hv]; exact Nat.min_le_right _ _
theorem clip_eq (v : Int) (n d : Nat) : (if v < 0 then max (v + (n : Int)) 0 else min v (n : Int)) = ((sIx n d (some v) : Nat) : Int) := by
  show (if v < 0 then max (v + (n : Int)) 0 else min v (n : Int)) = (((if v < 0 then (v + (n : Int)).toNat else min v.toNat n) : Nat) : Int)
  by_cases hv : v < 0
  · simp only [if_pos hv]; omega
  · simp only [if_neg hv]; omega
theorem adjust_gen (lo hi : Option Int) (n : Nat) : Builtin.Slice.sliceAdjust lo hi 1 (n : Int) = (((sIx n 0 lo : Nat) : Int), ((sIx n n hi : Nat) : Int)) := by
  have h1 : ¬ ((1 : Int) < 0) := by omega
  unfold Builtin.Slice.sliceAdjust
  simp only [h1, if_false]
  refine Prod.ext ?_ ?_
  · cases lo with
    | none => rfl
    | some v => exact clip_eq v n 0
  · cases hi with
    | none => rfl
    | some v => exact clip_eq v n n
theorem places_gen (i j : Nat) : Builtin.Slice.slicePlaces (i : Int) (j : Int) 1 = j - i := by
  unfold Builtin.Slice.slicePlaces
  have h1 : (1 : Int) > 0 := by omega
  simp only [h1, if_true, Int.ediv_one]
  split <;> omega
theorem slicePart_ {v : Value} {o : Option Int} {Q : Option Int → Shared → Prop} (p : IsPart v o) (h : Q o s) : wpAny (model prog w) A (Builtin.Slice.slicePartIndex v) Q E s := by
  cases p with
  | none => exact slicePart_none h
  | int i t => exact slicePart_int h
theorem sliceApplied_gen {sl : Addr} {vl vu : Value} {lo hi : Option Int} {n : Nat} {Q : Int × Int × Nat → Shared → Prop} (hs : s.heap.IsSliceOf sl vl vu .none) (pl : IsPart vl lo) (pu : IsPart vu hi)
    (h : Q (((sIx n 0 lo : Nat) : Int), 1, sIx n n hi - sIx n 0 lo) s) : wpAny (model prog w) A (Builtin.Slice.sliceApplied (.ref sl) (pure (n : Int))) Q E s := by
  obtain ⟨os, hos, hcs, hds⟩ := id hs
  unfold Builtin.Slice.sliceApplied Builtin.Slice.sliceFields
  refine wpAny_bind (wpAny_bind (wpAny_field hos hds (x := vl) rfl (wpAny_bind (wpAny_field hos hds (x := vu) rfl (wpAny_bind (wpAny_field hos hds (x := .none) rfl (wpAny_pure ?_)))))))
  refine wpAny_bind (slicePart_none ?_)
  show wpAny _ _ (if ((1 : Int) == 0) = true then _ else _) _ _ s
  rw [if_neg (by decide)]
  refine wpAny_bind (slicePart_ pl (wpAny_bind (slicePart_ pu (wpAny_bind (wpAny_pure ?_)))))
  show wpAny _ _ (match Builtin.Slice.sliceAdjust lo hi 1 (n : Int) with | (lo, hi) => pure (lo, (1 : Int), Builtin.Slice.slicePlaces lo hi 1)) _ _ s
  rw [adjust_gen lo hi n]
  show wpAny _ _ (pure (((sIx n 0 lo : Nat) : Int), (1 : Int), Builtin.Slice.slicePlaces ((sIx n 0 lo : Nat) : Int) ((sIx n n hi : Nat) : Int) 1)) _ _ s
  rw [places_gen]
  exact wpAny_pure h
theorem pick_gen (xs : Array Value) (i k : Nat) : ((List.range k).filterMap fun (m : Nat) => xs[((i : Int) + (m : Int) * 1).toNat]?).toArray = ((xs.toList.drop i).take k).toArray := by
  have e : (fun (m : Nat) => xs[((i : Int) + (m : Int) * 1).toNat]?) = fun m => xs[i + m]? := by
    funext m
    have : ((i : Int) + (m : Int) * 1).toNat = i + m := by omega
    rw [this]
  rw [e]
  have := pick_run xs i k
  rw [List.filterMap_map] at this
  have e2 : ((fun x => xs[x]?) ∘ fun x => i + x) = fun m => xs[i + m]? := rfl
  rw [e2] at this
  rw [this]

theorem getItem_tuple_cut {t sl : Addr} {items : Array Value} {vl vu : Value} {lo hi : Option Int} {Q : Value → Shared → Prop} (ht : IsTup s.heap t items) (hs : s.heap.IsSliceOf sl vl vu .none) (pl : IsPart vl lo) (pu : IsPart vu hi)
    (hw : ¬ (sIx items.size 0 lo = 0 ∧ sIx items.size items.size hi = items.size))
    (h : Q (.ref s.heap.objs.size) { s with heap := s.heap.push { cls := .type "tuple", data := .seq ((items.toList.drop (sIx items.size 0 lo)).take (sIx items.size items.size hi - sIx items.size 0 lo)).toArray } })
    (hsz : items.size ≤ sizeLine) : wpAny (model prog w) A (getItem (.ref t) (.ref sl)) Q E s := by
  have htake : sizeOk (.seq ((items.toList.drop (sIx items.size 0 lo)).take (sIx items.size items.size hi - sIx items.size 0 lo)).toArray) := by
    show ((items.toList.drop (sIx items.size 0 lo)).take (sIx items.size items.size hi - sIx items.size 0 lo)).toArray.size ≤ sizeLine
    rw [List.size_toArray, List.length_take, List.length_drop, Array.length_toList]
    omega
  have hj : sIx items.size items.size hi ≤ items.size := sIx_le _ _ (Nat.le_refl _) hi
  obtain ⟨os, hos, hcs, hds⟩ := id hs
  have hTs : s.TypeIs (.ref sl) "slice" := ⟨os, hos, hcs⟩
  unfold getItem
  try with_reducible refine wpAny_holding ?_
  first | refine wpAny_bind (wpAny_pure ?_) | skip
  refine wpAny_bind (wpAny_sequenceKey ht.typeIs (by decide) ?_)
  refine wpAny_bind (wpAny_callSpecial?_slot (name := Str.ofString "__getitem__") ht.typeIs PyProof.Rows.slot_tuple_getitem
    (wpAny_call_entry PyProof.Rows.slot_tuple_getitem ht.typeIs entry_tuple_getitem ?_ (args_tuple_getitem _ _)))
  show wpAny _ _ (Builtin.Tuple.tupleItemsOf (.ref t) >>= _) _ _ s
  refine wpAny_bind (tupleItemsOf_ ht ?_)
  refine wpAny_bind (wpAny_typeOf hTs ?_)
  rw [if_pos (by decide)]
  refine wpAny_bind (sliceApplied_gen hs pl pu ?_)
  have hno : ¬ ((((sIx items.size 0 lo : Nat) : Int) == 0 && (1 : Int) == 1 && (sIx items.size items.size hi - sIx items.size 0 lo) == items.size) = true) := by
    intro q
    rw [Bool.and_eq_true, Bool.and_eq_true] at q
    have q1 : ((sIx items.size 0 lo : Nat) : Int) = 0 := eq_of_beq q.1.1
    have q2 : sIx items.size items.size hi - sIx items.size 0 lo = items.size := eq_of_beq q.2
    exact hw ⟨by omega, by omega⟩
  show wpAny _ _ (if (((sIx items.size 0 lo : Nat) : Int) == 0 && (1 : Int) == 1 && (sIx items.size items.size hi - sIx items.size 0 lo) == items.size) = true then _ else _) _ _ s
  rw [if_neg hno, pick_gen]
  first
    | exact wpAny_bind (m := Builtin.Tuple.tupleExact _) (wpAny_newObj_type (wpAny_pure ⟨_, rfl, wpAny_pure h⟩) htake)
    | exact wpAny_bind (m := Builtin.Tuple.tupleExact _) (wpAny_newObj_type (wpAny_bind (wpAny_pure (wpAny_pure ⟨_, rfl, wpAny_pure h⟩))) htake)
    | exact wpAny_bind (wpAny_bind (m := Builtin.Tuple.tupleExact _) (wpAny_newObj_type (wpAny_pure (wpAny_pure ⟨_, rfl, wpAny_pure h⟩)) htake))
    | exact wpAny_bind (wpAny_bind (m := Builtin.Tuple.tupleExact _) (wpAny_newObj_type (wpAny_pure ⟨_, rfl, wpAny_pure h⟩) htake))
end
end HT

namespace L2
open PySem PySem.Spec PyProof.Rows

/-! ### the parts of a slice -/
noncomputable abbrev TO := St → Hp → (Option Int → Hp → Prop) → Prop
/-- a slice's part (left out, or an int) -/
noncomputable def PO (X : Cx) (e : Option Expr) (t : TO) : Prop :=
  ∀ (pins : List (Addr × Obj)) (s : Shared) (σ : St) (H : Hp) (Q : Option Int → Hp → Prop), Inv X pins σ H s → t σ H Q →
    wpAny (model X.prog X.w) X.A (evalPart e X.env) (fun u s' => ∃ o H', Inv X pins σ H' s' ∧ IsPart u o ∧ Q o H') X.xe s
noncomputable def tNoPart : TO := fun _ H Q => Q none H
noncomputable def tPart (t : TE) : TO := fun σ H Q => t σ H fun x H1 => ∃ i, x = .int i ∧ Q (some i) H1


section
variable {X : Cx} {e : Expr} {te : TE} {lo hi : Option Expr} {tl th : TO} {pos p2 : Pos}

theorem po_none : PO X none tNoPart := by
  intro pins s σ H Q I h
  rw [evalPart_none]
  exact wpAny_pure ⟨none, H, I, .none, h⟩
theorem po_some (h : PE X e te) : PO X (some e) (tPart te) := by
  intro pins s σ H Q I hw
  rw [evalPart_some]
  (refine thn (h pins s σ H _ I hw) ?_; rintro u s1 ⟨x, H1, I1, r1, q1⟩)
  obtain ⟨i, rfl, q⟩ := q1
  obtain ⟨t, rfl⟩ := r1
  exact ⟨some i, H1, I1, .int i t, q⟩

/-- what a slice of a value is, by values: the slice object stands at sl -/
noncomputable def SlR (X : Cx) (r : V → Option Int → Option Int → Hp → VK → Prop) : Prop :=
  ∀ (pins : List (Addr × Obj)) (s : Shared) (σ : St) (H : Hp) (x : V) (v vl vu : Value) (lo hi : Option Int) (sl : Addr) (Q : VK), Inv X pins σ H s → RelV x v → s.heap.IsSliceOf sl vl vu .none → IsPart vl lo → IsPart vu hi → r x lo hi H Q →
    ∃ T id, typeLookup (.type T) "__getitem__" = pure (some (.builtin id)) ∧ s.TypeIs v T ∧ wpAny (model X.prog X.w) X.A (getItem v (.ref sl)) (EP X pins σ Q) X.xe s
theorem SlR.or {r r' : V → Option Int → Option Int → Hp → VK → Prop} (h : SlR X r) (h' : SlR X r') : SlR X (fun x lo hi H Q => r x lo hi H Q ∨ r' x lo hi H Q) := by
  intro pins s σ H x v vl vu lo hi sl Q I rx hs pl pu q
  rcases q with q | q
  · exact h pins s σ H x v vl vu lo hi sl Q I rx hs pl pu q
  · exact h' pins s σ H x v vl vu lo hi sl Q I rx hs pl pu q
noncomputable def tSl (r : V → Option Int → Option Int → Hp → VK → Prop) (te : TE) (tl th : TO) : TE := fun σ H Q => te σ H fun x H1 => tl σ H1 fun l H2 => th σ H2 fun u H3 => r x l u H3 Q
/-- a[lo:hi], any a -/
theorem pe_slice {r : V → Option Int → Option Int → Hp → VK → Prop} (hr : SlR X r) (he : PE X e te) (hl : PO X lo tl) (hu : PO X hi th) : PE X (.Subscript e (.Slice lo hi none p2) pos) (tSl r te tl th) := by
  intro pins s σ H Q I h
  (refine Subscript_ (thn (he pins s σ H _ I h) ?_); rintro v s1 ⟨x, H1, I1, r1, q1⟩)
  (refine wpAny_Slice (thn (hl pins s1 σ H1 _ I1 q1) ?_); rintro vl s2 ⟨l, H2, I2, pl, q2⟩; refine thn (hu pins s2 σ H2 _ I2 q2) ?_; rintro vu s3 ⟨u, H3, I3, pu, q3⟩)
  rw [evalPart_none]
  refine wpAny_pure ?_
  have I4 : Inv X pins σ H3 { s3 with heap := s3.heap.push { cls := .type "slice", data := .fields #[vl, vu, .none] } } := I3.kept (t' := s3.toks) fun b ob q => Heap.get?_push_of_some _ q
  obtain ⟨T, id, hT, ht, hg⟩ := hr pins { s3 with heap := s3.heap.push { cls := .type "slice", data := .fields #[vl, vu, .none] } } σ H3 x v vl vu l u s3.heap.objs.size Q I4 r1 (Heap.IsSliceOf.new ..) pl pu q3
  show wpAny (model X.prog X.w) X.A (subscriptTail e (.Slice lo hi none p2) v (.ref s3.heap.objs.size)) (EP X pins σ Q) X.xe { s3 with heap := s3.heap.push { cls := .type "slice", data := .fields #[vl, vu, .none] } }
  exact tail_any (ops := [.ref s3.heap.objs.size, v]) ht hT hg (by with_unfolding_all rfl)

/-- the items of xs[lo:hi] -/
noncomputable def cutV (xs : List V) (lo hi : Option Int) : List V := (xs.drop (HT.sIx xs.length 0 lo)).take (HT.sIx xs.length xs.length hi - HT.sIx xs.length 0 lo)
theorem cutV_length (xs : List V) (lo hi : Option Int) : (cutV xs lo hi).length ≤ xs.length := by
  unfold cutV
  rw [List.length_take, List.length_drop]
  omega
/-- t[lo:hi], not the whole of it (the whole would be t itself) -/
noncomputable def rSlT (K : PySem.W.Frag) : V → Option Int → Option Int → Hp → VK → Prop := fun x lo hi H Q => ∃ a xs, x = .ref a ∧ SqT K H a xs ∧
  ¬ (HT.sIx xs.length 0 lo = 0 ∧ HT.sIx xs.length xs.length hi = xs.length) ∧ ∀ p, H p = none → Q (.ref p) (upd H p (.tup (cutV xs lo hi)))
theorem sl_tup : SlR X (rSlT X.K) := by
  intro pins s σ H x v vl vu lo hi sl Q I rx hs pl pu h
  obtain ⟨a, xs, rfl, hx, hw, q⟩ := h
  cases rx
  obtain ⟨its, r, ht, hz⟩ := I.tuple hx
  have hlen : its.toArray.size = xs.length := by rw [List.size_toArray]; exact r.length.symm
  refine ⟨"tuple", _, PyProof.Rows.slot_tuple_getitem.lookup, ht.typeIs, ?_⟩
  refine HT.getItem_tuple_cut ht hs pl pu (by rw [hlen]; exact hw) ?_ (by rw [hlen]; exact hz)
  rw [hlen]
  refine ⟨.ref s.heap.objs.size, _, I.laid (t' := s.toks) (o := .tup (cutV xs lo hi)) (fun b ob q => Heap.get?_push_of_some _ q) (Nat.le_refl _) ?_, rfl, q _ (I.hok.fresh (Nat.le_refl _))⟩
  exact ⟨Nat.le_trans (cutV_length xs lo hi) hz, _, (r.drop (HT.sIx xs.length 0 lo)).take (HT.sIx xs.length xs.length hi - HT.sIx xs.length 0 lo), IsTup.new _ _⟩

/-! ### t < u, t + u -/
/-- t + u, t not empty: u empty gives t itself -/
noncomputable def rCatT (K : PySem.W.Frag) : R2 := fun x y H Q => ∃ a b xs ys, x = .ref a ∧ y = .ref b ∧ SqT K H a xs ∧ SqT K H b ys ∧ xs ≠ [] ∧ xs.length + ys.length ≤ sizeLine ∧
  (ys = [] → Q (.ref a) H) ∧ (ys ≠ [] → ∀ p, H p = none → Q (.ref p) (upd H p (.tup (xs ++ ys))))
theorem Vals.nil_iff {xs : List V} {us : List Value} (r : Vals xs us) : us = [] ↔ xs = [] := by
  cases r with
  | nil => simp
  | cons _ _ => simp
theorem op_catT : OpR X (binaryOp .Add) (rCatT X.K) := by
  intro pins s σ H x y v u Q I rx ry h
  obtain ⟨a, b, xs, ys, rfl, rfl, ha, hb, hx, hz, q1, q2⟩ := h
  cases rx
  cases ry
  obtain ⟨its, r1, p1, _⟩ := I.tuple ha
  obtain ⟨its2, r2, p2, _⟩ := I.tuple hb
  refine HT.cat_tup p1 p2 (fun z => hx (r1.nil_iff.mp z)) (fun z => ⟨.ref a, H, I, rfl, q1 (r2.nil_iff.mp z)⟩) (fun z => ?_) (by rw [← r1.length, ← r2.length]; exact hz)
  refine ⟨.ref s.heap.objs.size, _, I.laid (t' := s.toks) (o := .tup (xs ++ ys)) (fun b ob q => Heap.get?_push_of_some _ q) (Nat.le_refl _) ?_, rfl, q2 (fun w => z (r2.nil_iff.mpr w)) _ (I.hok.fresh (Nat.le_refl _))⟩
  exact ⟨by rw [List.length_append]; exact hz, _, r1.append r2, IsTup.new _ _⟩
end
end L2

namespace L2
open PySem PySem.Spec PyProof.Rows

/-! ### places -/
/-- the place that an index of any sign means -/
noncomputable def ixN (n : Nat) (i : Int) : Option Nat := if 0 ≤ i then (if i < n then some i.toNat else none) else if -(n : Int) ≤ i then some (i + n).toNat else none
noncomputable def atI {α : Type} (xs : List α) (i : Int) : Option α := (ixN xs.length i).bind fun j => xs[j]?
theorem ixN_seq {n : Nat} {i : Int} {j : Nat} (h : ixN n i = some j) : seqIndex? i n = some j ∧ j < n ∧ -(n : Int) ≤ i ∧ i < n := by
  unfold ixN at h
  by_cases h0 : 0 ≤ i
  · rw [if_pos h0] at h
    by_cases h1 : i < n
    · rw [if_pos h1] at h
      have e : i.toNat = j := Option.some.inj h
      exact ⟨by rw [seqIndex_of h0 h1, e], by omega, by omega, h1⟩
    · rw [if_neg h1] at h; cases h
  · rw [if_neg h0] at h
    by_cases h1 : -(n : Int) ≤ i
    · rw [if_pos h1] at h
      have e : (i + n).toNat = j := Option.some.inj h
      exact ⟨by rw [seqIndex_neg (by omega) h1, e], by omega, h1, by omega⟩
    · rw [if_neg h1] at h; cases h
theorem atI_get {α : Type} {xs : List α} {i : Int} {v : α} (h : atI xs i = some v) : ∃ j, seqIndex? i xs.length = some j ∧ xs[j]? = some v ∧ j < xs.length ∧ -(xs.length : Int) ≤ i ∧ i < xs.length := by
  unfold atI at h
  cases e : ixN xs.length i with
  | none => rw [e] at h; cases h
  | some j =>
    rw [e] at h
    obtain ⟨h1, h2, h3, h4⟩ := ixN_seq e
    exact ⟨j, h1, h, h2, h3, h4⟩
theorem atI_nat {α : Type} {xs : List α} {j : Nat} {v : α} (h : xs[j]? = some v) : atI xs (j : Int) = some v := by
  have hj : j < xs.length := (List.getElem?_eq_some_iff.mp h).1
  have e : ixN xs.length (j : Int) = some j := by
    unfold ixN
    rw [if_pos (by omega), if_pos (by omega)]; simp
  unfold atI; rw [e]; exact h

/-! ### what may be subscripted -/
/-- what stands as an index of a plain subscript -/
noncomputable def PlainIx (b : Expr) : Prop := ∀ o i, subscripted b false o i = operate [o, i] (getItem o i)
/-- a subscript by values -/
noncomputable def IxR (X : Cx) (r : R2) : Prop :=
  ∀ (value slice : Expr) (pins : List (Addr × Obj)) (s : Shared) (σ : St) (H : Hp) (x y : V) (v u : Value) (Q : VK), Inv X pins σ H s → RelV x v → RelV y u → r x y H Q →
    subscripted slice false v u = operate [v, u] (getItem v u) → wpAny (model X.prog X.w) X.A (subscriptTail value slice v u) (EP X pins σ Q) X.xe s
/-- a call of a builtin's method by values: the receiver, the arguments -/
noncomputable def MtR (X : Cx) (id : String) (r : V → List V → Hp → VK → Prop) : Prop :=
  ∀ (pins : List (Addr × Obj)) (s : Shared) (σ : St) (H : Hp) (x : V) (xs : List V) (v : Value) (us : List Value) (Q : VK), Inv X pins σ H s → RelV x v → Vals xs us → r x xs H Q →
    wpAny (model X.prog X.w) X.A (call (.builtin id) (v :: us)) (EP X pins σ Q) X.xe s
section
variable {X : Cx} {a b : Expr} {ta tb : TE} {pos : Pos}
theorem IxR.or {r r' : R2} (h : IxR X r) (h' : IxR X r') : IxR X (fun x y H Q => r x y H Q ∨ r' x y H Q) := by
  intro value slice pins s σ H x y v u Q I rx ry q hs
  rcases q with q | q
  · exact h value slice pins s σ H x y v u Q I rx ry q hs
  · exact h' value slice pins s σ H x y v u Q I rx ry q hs
theorem MtR.or {id : String} {r r' : V → List V → Hp → VK → Prop} (h : MtR X id r) (h' : MtR X id r') : MtR X id (fun x xs H Q => r x xs H Q ∨ r' x xs H Q) := by
  intro pins s σ H x xs v us Q I rx rs q
  rcases q with q | q
  · exact h pins s σ H x xs v us Q I rx rs q
  · exact h' pins s σ H x xs v us Q I rx rs q
/-- a[b] -/
theorem pe_ix {r : R2} (hr : IxR X r) (ha : PE X a ta) (hb : PE X b tb) (hs : PlainIx b) : PE X (.Subscript a b pos) (tOp r ta tb) := by
  intro pins s σ H Q I h
  exact Subscript_ (binT ha hb I h fun v u s2 x y H2 I2 rx ry q => hr a b pins s2 σ H2 x y v u Q I2 rx ry q (hs _ _))

noncomputable def rIxL (K : PySem.W.Frag) : R2 := fun x y H Q => ∃ p xs i v, x = .ref p ∧ y = .int i ∧ SqL K H p xs ∧ atI xs i = some v ∧ Q v H
noncomputable def rIxT (K : PySem.W.Frag) : R2 := fun x y H Q => ∃ p xs i v, x = .ref p ∧ y = .int i ∧ SqT K H p xs ∧ atI xs i = some v ∧ Q v H
noncomputable def rIxS : R2 := fun x y H Q => ∃ z i c, x = .str z ∧ y = .int i ∧ z.length ≤ sizeLine ∧ atI z.cps.toList i = some c ∧ Q (.str ⟨#[c]⟩) H
theorem ix_list : IxR X (rIxL X.K) := by
  intro value slice pins s σ H x y v u Q I rx ry h hs
  obtain ⟨p, xs, i, z, rfl, rfl, hq, he, q⟩ := h
  cases rx
  obtain ⟨t, rfl⟩ := ry
  obtain ⟨its, r, pl, hz⟩ := I.list hq
  obtain ⟨j, h1, h2, h3, h4, h5⟩ := atI_get he
  obtain ⟨w, ew, rw'⟩ := r.get h2
  have hl := r.length
  have hn := line63
  have fin : EP X pins σ Q w s := ⟨z, H, I, rw', q⟩
  by_cases h0 : 0 ≤ i
  · have hj : i.toNat = j := by
      rw [seqIndex_of h0 h5] at h1
      exact Option.some.inj h1
    exact item_listR pl.isList h0 (by omega) (by rw [hj]; simpa using ew) fin hs
  · have hj : (i + (its.toArray.size : Int)).toNat = j := by
      rw [seqIndex_neg (by omega) h4] at h1
      rw [List.size_toArray, ← hl]
      exact Option.some.inj h1
    exact subscriptTail_builtinR (x := w) pl.isList.typeIs slot_list_getitem.lookup
      (wpAny_getItem_list_neg (Q := fun r s' => r = w ∧ EP X pins σ Q r s') pl.isList (by omega) (by rw [List.size_toArray] <;> omega) (by omega) (by rw [hj]; simpa using ew) ⟨rfl, fin⟩) hs
theorem ix_tup : IxR X (rIxT X.K) := by
  intro value slice pins s σ H x y v u Q I rx ry h hs
  obtain ⟨p, xs, i, z, rfl, rfl, hq, he, q⟩ := h
  cases rx
  obtain ⟨t, rfl⟩ := ry
  obtain ⟨its, r, pl, hz⟩ := I.tuple hq
  obtain ⟨j, h1, h2, h3, h4, h5⟩ := atI_get he
  obtain ⟨w, ew, rw'⟩ := r.get h2
  have hl := r.length
  have hn := line63
  have fin : EP X pins σ Q w s := ⟨z, H, I, rw', q⟩
  exact subscriptTail_builtinR (x := w) pl.typeIs slot_tuple_getitem.lookup
    (getItem_tuple (j := j) (Q := fun r s' => r = w ∧ EP X pins σ Q r s') pl (by omega) (by omega) (by rw [List.size_toArray, ← hl]; exact h1) (by simpa using ew) ⟨rfl, fin⟩) hs
theorem ix_str : IxR X rIxS := by
  intro value slice pins s σ H x y v u Q I rx ry h hs
  obtain ⟨z, i, c, rfl, rfl, hz, he, q⟩ := h
  obtain ⟨t, rfl⟩ := rx
  obtain ⟨t', rfl⟩ := ry
  obtain ⟨j, h1, h2, h3, h4, h5⟩ := atI_get he
  have hl : z.cps.toList.length = z.length := by simp [Str.length]
  rw [hl] at h1 h4 h5
  have hn := line63
  exact tail_any (typeIs_str s z t) slot_str_getitem.lookup (getItem_str (c := c) (by
    have e1 : decide (i < -(2 ^ 63 : Int)) = false := decide_eq_false (by omega)
    have e2 : decide (i ≥ 2 ^ 63) = false := decide_eq_false (by omega)
    rw [e1, e2, Bool.or_false]) (by rw [h1]; simpa using h2) ⟨.str ⟨#[c]⟩, H, I.tok _, ⟨_, rfl⟩, q⟩) hs
/-- list, tuple or str -/
noncomputable def rIx (K : PySem.W.Frag) : R2 := fun x y H Q => rIxL K x y H Q ∨ rIxT K x y H Q ∨ rIxS x y H Q
theorem ix_seq : IxR X (rIx X.K) := ix_list.or (ix_tup.or ix_str)

/-! ### xs[i] = v, any sign -/
/-- the list's object behind a store -/
theorem mapSeq_set (its : List Value) (n j : Nat) (u : Value) : Obj.mapSeq (·.setIfInBounds j u) { cls := .type "list", data := .seq its.toArray n } = { cls := .type "list", data := .seq (its.set j u).toArray n } := by
  simp [Obj.mapSeq]
theorem Inv.lst {pins : List (Addr × Obj)} {σ : St} {H : Hp} {s : Shared} {p : Addr} {xs : List V} (I : Inv X pins σ H s) (h : H p = some (.lst xs)) :
    ∃ (its : List Value) (n : Nat), Vals xs its ∧ s.heap.get? p = some { cls := .type "list", data := .seq its.toArray n } ∧ xs.length ≤ sizeLine := by
  obtain ⟨z, its, n, r, e⟩ := I.hok p _ h
  exact ⟨its, n, r, e, z⟩
/-- the list at p is written by an update of its object -/
theorem Inv.lstUpd {pins : List (Addr × Obj)} {σ : St} {H : Hp} {s : Shared} {p : Addr} {xs ys : List V} {its its' : List Value} {n n' : Nat} {f : Obj → Obj} (I : Inv X pins σ H s) (h : H p = some (.lst xs))
    (ho : s.heap.get? p = some { cls := .type "list", data := .seq its.toArray n }) (hf : f { cls := .type "list", data := .seq its.toArray n } = { cls := .type "list", data := .seq its'.toArray n' }) (r : Vals ys its') (hz : ys.length ≤ sizeLine) (t : Nat) :
    Inv X pins σ (upd H p (.lst ys)) { s with heap := s.heap.update p f, toks := t } := by
  have e : (s.heap.update p f).get? p = some { cls := .type "list", data := .seq its'.toArray n' } := by
    rw [Heap.get?_update_self f ho (by rw [hf] <;> rfl), hf]
  refine I.write (x := p) (e := p) (by rw [h]; trivial) (.inl rfl) (fun b u hb q => (Heap.get?_update_other _ _ (Ne.symm hb)).trans q) ⟨_, e⟩ ?_
  exact ⟨hz, its', n', r, e⟩
noncomputable def rSetL : V → V → V → Hp → (Hp → Prop) → Prop := fun o i v H Q => ∃ p xs k j, o = .ref p ∧ i = .int k ∧ H p = some (.lst xs) ∧ ixN xs.length k = some j ∧ Q (upd H p (.lst (xs.set j v)))
theorem set_list : PSet X rSetL := by
  intro pins s σ H o i v ov iv u Q I ro ri rv h
  obtain ⟨p, xs, k, j, rfl, rfl, hp, hj, q⟩ := h
  cases ro
  obtain ⟨t, rfl⟩ := ri
  obtain ⟨its, n, r, ho, hz⟩ := I.lst hp
  obtain ⟨h1, h2, h3, h4⟩ := ixN_seq hj
  have hl := r.length
  have hn := line63
  have I' : Inv X pins σ (upd H p (.lst (xs.set j v))) { s with heap := s.heap.update p (Obj.mapSeq (·.setIfInBounds j u)) } :=
    I.lstUpd hp ho (mapSeq_set its n j u) (r.set rv j) (by rw [List.length_set]; exact hz) s.toks
  by_cases h0 : 0 ≤ k
  · have hk : k.toNat = j := by
      rw [seqIndex_of h0 h4] at h1
      exact Option.some.inj h1
    exact PySem.W.ki_setAt ho h0 (by omega) (by rw [List.size_toArray, ← hl]; exact h4) (by rw [hk]; exact ⟨_, I', q⟩)
  · have hk : (k + (its.toArray.size : Int)).toNat = j := by
      rw [seqIndex_neg (by omega) h3] at h1
      rw [List.size_toArray, ← hl]
      exact Option.some.inj h1
    exact PySem.W.ki_setBack ho (by omega) (by rw [List.size_toArray, ← hl]; exact h3) (by omega) (by rw [hk]; exact ⟨_, I', q⟩)

/-! ### slices -/
theorem slice_bounds (lo hi : Option Int) (n : Nat) : (sliceBounds lo hi none n).1 = ((HT.sIx n 0 lo : Nat) : Int) ∧ (sliceBounds lo hi none n).2.1 = ((HT.sIx n n hi : Nat) : Int) ∧ (sliceBounds lo hi none n).2.2 = 1 := by
  refine ⟨?_, ?_, rfl⟩
  · cases lo with
    | none => simp [sliceBounds, HT.sIx]
    | some i =>
      simp only [sliceBounds, HT.sIx, Option.getD_none, show (1 : Int) > 0 by decide, if_true]
      by_cases h : i < 0
      · simp only [h, if_true] <;> omega
      · simp only [h, if_false] <;> omega
  · cases hi with
    | none => simp [sliceBounds, HT.sIx]
    | some i =>
      simp only [sliceBounds, HT.sIx, Option.getD_none, show (1 : Int) > 0 by decide, if_true]
      by_cases h : i < 0
      · simp only [h, if_true] <;> omega
      · simp only [h, if_false] <;> omega
theorem slicePick_cut (its : List Value) (lo hi : Option Int) : slicePick its.toArray lo hi none = ((its.drop (HT.sIx its.length 0 lo)).take (HT.sIx its.length its.length hi - HT.sIx its.length 0 lo)).toArray := by
  obtain ⟨h1, h2, h3⟩ := slice_bounds lo hi its.toArray.size
  unfold slicePick
  rw [h1, h2, h3]
  simp only [sliceRange_one, pick_run, List.size_toArray] <;> rfl
/-- xs[lo:hi] of a list: a new list -/
noncomputable def rSlL (K : PySem.W.Frag) : V → Option Int → Option Int → Hp → VK → Prop := fun x lo hi H Q => ∃ a xs, x = .ref a ∧ SqL K H a xs ∧ ∀ p, H p = none → Q (.ref p) (upd H p (.lst (cutV xs lo hi)))
theorem sl_list : SlR X (rSlL X.K) := by
  intro pins s σ H x v vl vu lo hi sl Q I rx hs pl pu h
  obtain ⟨a, xs, rfl, hx, q⟩ := h
  cases rx
  obtain ⟨its, r, ht, hz⟩ := I.list hx
  have hlen := r.length
  refine ⟨"list", _, slot_list_getitem.lookup, ht.isList.typeIs, ?_⟩
  refine wpAny_getItem_list_slice ht.isList hs pl pu .none (by simp) ?_ (by rw [List.size_toArray] <;> omega)
  rw [slicePick_cut, ← hlen]
  refine ⟨.ref s.heap.objs.size, _, I.laid (t' := s.toks) (o := .lst (cutV xs lo hi)) (fun b ob q => Heap.get?_push_of_some _ q) (Nat.le_refl _) ?_, rfl, q _ (I.hok.fresh (Nat.le_refl _))⟩
  exact ⟨Nat.le_trans (cutV_length xs lo hi) hz, _, 0, (r.drop (HT.sIx xs.length 0 lo)).take (HT.sIx xs.length xs.length hi - HT.sIx xs.length 0 lo), Heap.get?_push_size _ rfl⟩

/-! ### in, not in: flat items -/
noncomputable def flatV : V → Bool
  | .non => true
  | .bl _ => true
  | .int _ => true
  | .str _ => true
  | _ => false
/-- == of flat values -/
noncomputable def eqV : V → V → Bool
  | .non, .non => true
  | .bl a, .bl b => a == b
  | .bl a, .int b => (if a then 1 else 0) == b
  | .int a, .bl b => a == (if b then 1 else 0)
  | .int a, .int b => a == b
  | .str a, .str b => a == b
  | _, _ => false
theorem eqAt_V {A : Around} {s : Shared} {y x : V} {u v : Value} (ry : RelV y u) (rx : RelV x v) (fy : flatV y = true) (fx : flatV x = true) : SeqAt.EqAt A s u v (eqV y x) := by
  cases y with
  | non =>
    cases ry
    cases x with
    | non => cases rx; exact SeqAt.EqAt.same _
    | bl b => cases rx; exact SeqAt.EqAt.none_bool b
    | int b => obtain ⟨t, rfl⟩ := rx; exact SeqAt.EqAt.none_int b t
    | str b => obtain ⟨t, rfl⟩ := rx; exact SeqAt.EqAt.none_str b t
    | _ => exact absurd (show false = true from fx) Bool.false_ne_true
  | bl a =>
    cases ry
    cases x with
    | non => cases rx; exact SeqAt.EqAt.bool_none a
    | bl b => cases rx; exact SeqAt.EqAt.bool_bool a b
    | int b => obtain ⟨t, rfl⟩ := rx; exact SeqAt.EqAt.bool_int a b t
    | str b => obtain ⟨t, rfl⟩ := rx; exact SeqAt.EqAt.bool_str a b t
    | _ => exact absurd (show false = true from fx) Bool.false_ne_true
  | int a =>
    obtain ⟨t', rfl⟩ := ry
    cases x with
    | non => cases rx; exact SeqAt.EqAt.int_none a t'
    | bl b => cases rx; exact SeqAt.EqAt.int_bool a t' b
    | int b => obtain ⟨t, rfl⟩ := rx; exact SeqAt.EqAt.int_int a t' b t
    | str b => obtain ⟨t, rfl⟩ := rx; exact SeqAt.EqAt.int_str a t' b t
    | _ => exact absurd (show false = true from fx) Bool.false_ne_true
  | str a =>
    obtain ⟨t', rfl⟩ := ry
    cases x with
    | non => cases rx; exact SeqAt.EqAt.str_none a t'
    | bl b => cases rx; exact SeqAt.EqAt.str_bool a t' b
    | int b => obtain ⟨t, rfl⟩ := rx; exact SeqAt.EqAt.str_int a t' b t
    | str b => obtain ⟨t, rfl⟩ := rx; exact SeqAt.EqAt.str_str a t' b t
    | _ => exact absurd (show false = true from fx) Bool.false_ne_true
  | _ => exact absurd (show false = true from fy) Bool.false_ne_true

/-! ### len, list(x), tuple(x) of any list or tuple that is read -/
theorem call_len_seq : CallR X (.builtin "len") (fun xs H Q => ∃ p ys, xs = [.ref p] ∧ (SqL X.K H p ys ∨ SqT X.K H p ys) ∧ Q (.int ys.length) H) := by
  intro pins s σ H xs us Q I r h
  obtain ⟨p, ys, rfl, hq, q⟩ := h
  obtain ⟨u, rfl, rx⟩ := vals1 r
  cases rx
  have hn := line63
  rcases hq with hq | hq
  · obtain ⟨its, r', pl, hz⟩ := I.list hq
    have hlen := r'.length
    exact Calls.call_len_list pl.isList (by simp only [List.size_toArray] <;> omega) ⟨.int ys.length, H, I.tok _, ⟨s.toks + 1, by rw [List.size_toArray, hlen]⟩, q⟩
  · obtain ⟨its, r', pl, hz⟩ := I.tuple hq
    have hlen := r'.length
    exact len_tuple pl (by simp only [List.size_toArray] <;> omega) ⟨.int ys.length, H, I.tok _, ⟨s.toks + 1, by rw [List.size_toArray, hlen]⟩, q⟩
theorem call_len_str : CallR X (.builtin "len") (fun xs H Q => ∃ z, xs = [.str z] ∧ z.length ≤ sizeLine ∧ Q (.int z.length) H) := by
  intro pins s σ H xs us Q I r h
  obtain ⟨z, rfl, hz, q⟩ := h
  obtain ⟨u, rfl, t, rfl⟩ := vals1 r
  have hn := line63
  exact len_str (by omega) ⟨.int z.length, H, I.tok _, ⟨_, rfl⟩, q⟩
theorem CallR.or {f : Value} {r r' : List V → Hp → VK → Prop} (h : CallR X f r) (h' : CallR X f r') : CallR X f (fun xs H Q => r xs H Q ∨ r' xs H Q) := by
  intro pins s σ H xs us Q I rs q
  rcases q with q | q
  · exact h pins s σ H xs us Q I rs q
  · exact h' pins s σ H xs us Q I rs q
theorem call_list_of : CallR X (.type "list") (fun xs H Q => ∃ p ys, xs = [.ref p] ∧ (SqL X.K H p ys ∨ SqT X.K H p ys) ∧ ∀ l, H l = none → Q (.ref l) (upd H l (.lst ys))) := by
  intro pins s σ H xs us Q I r h
  obtain ⟨p, ys, rfl, hq, q⟩ := h
  obtain ⟨u, rfl, rx⟩ := vals1 r
  cases rx
  have fin : ∀ (its : List Value), Vals ys its → ys.length ≤ sizeLine → ∀ (h' : Heap) (c' : Nat), (∀ b o', s.heap.get? b = some o' → h'.get? b = some o') →
      h'.get? s.heap.objs.size = some { cls := .type "list", dict := none, data := .seq its.toArray c', slots := #[] } → EP X pins σ Q (.ref s.heap.objs.size) { s with heap := h' } := fun its r' hz h' c' kp e =>
    ⟨.ref s.heap.objs.size, _, I.laid (t' := s.toks) kp (Nat.le_refl _) (show ObjOk X.prog X.w _ h' _ (.lst ys) from ⟨hz, its, c', r', e⟩), rfl, q _ (I.hok.fresh (Nat.le_refl _))⟩
  rcases hq with hq | hq
  · obtain ⟨its, r', pl, hz⟩ := I.list hq
    have hlen := r'.length
    obtain ⟨o, ho, hc, n, hd⟩ := pl.isList
    exact call_list_seq p (.inl rfl) ho hc hd (fun h' c' kp e => fin its r' hz h' c' kp e) (by simp only [List.size_toArray] <;> omega)
  · obtain ⟨its, r', pl, hz⟩ := I.tuple hq
    have hlen := r'.length
    obtain ⟨o, ho, hc, n, hd⟩ := pl
    exact call_list_seq p (.inr rfl) ho hc hd (fun h' c' kp e => fin its r' hz h' c' kp e) (by simp only [List.size_toArray] <;> omega)
theorem call_tuple_of : CallR X (.type "tuple") (fun xs H Q => ∃ p ys, xs = [.ref p] ∧ ((SqL X.K H p ys ∧ ∀ l, H l = none → Q (.ref l) (upd H l (.tup ys))) ∨ (SqT X.K H p ys ∧ Q (.ref p) H))) := by
  intro pins s σ H xs us Q I r h
  obtain ⟨p, ys, rfl, h⟩ := h
  obtain ⟨u, rfl, rx⟩ := vals1 r
  cases rx
  rcases h with ⟨hq, q⟩ | ⟨hq, q⟩
  · obtain ⟨its, r', pl, hz⟩ := I.list hq
    have hlen := r'.length
    refine call_tuple_list pl.isList (fun h' kp => ?_) (by simp only [List.size_toArray] <;> omega)
    have I1 : Inv X pins σ H { s with heap := h' } := I.kept (t' := s.toks) kp
    have I2 : Inv X pins σ (upd H h'.objs.size (.tup ys)) { s with heap := h'.push { cls := .type "tuple", data := .seq its.toArray } } :=
      I1.laid (t' := s.toks) (fun b o e => Heap.get?_push_of_some _ e) (Nat.le_refl _) (show ObjOk X.prog X.w _ _ _ (.tup ys) from ⟨hz, its, r', IsTup.new _ _⟩)
    exact ⟨.ref h'.objs.size, _, I2, rfl, q _ (I1.hok.fresh (Nat.le_refl _))⟩
  · obtain ⟨its, r', pl, hz⟩ := I.tuple hq
    exact call_tuple_same pl ⟨.ref p, H, I, rfl, q⟩

/-! ### the call of a builtin's method: o.m(..) -/
/-- the value is of that builtin type -/
noncomputable def tyV (K : PySem.W.Frag) (T : String) (x : V) (H : Hp) : Prop := match x with
  | .str _ => T = "str"
  | .int _ => T = "int"
  | .ref p => (T = "list" ∧ ∃ xs, SqL K H p xs) ∨ (T = "tuple" ∧ ∃ o, K.lookup p = some o ∧ o.cls = .type "tuple" ∧ o.dict = none) ∨
      (T = "dict" ∧ ((∃ kvs, H p = some (.dK kvs)) ∨ ∃ kvs, H p = some (.dT kvs))) ∨ (T = "set" ∧ ∃ S n, H p = some (.set S n))
  | _ => False
theorem tyV_is {pins : List (Addr × Obj)} {σ : St} {H : Hp} {s : Shared} {T : String} {x : V} {v : Value} (I : Inv X pins σ H s) (r : RelV x v) (ty : tyV X.K T x H) :
    s.TypeIs v T ∧ ∀ a, v = .ref a → ∃ ob, s.heap.get? a = some ob ∧ ob.dict = none := by
  cases x with
  | str z =>
    obtain ⟨t, rfl⟩ := r
    cases (show T = "str" from ty)
    exact ⟨typeIs_str s z t, fun _ e => nomatch e⟩
  | int i =>
    obtain ⟨t, rfl⟩ := r
    cases (show T = "int" from ty)
    exact ⟨typeIs_int s i t, fun _ e => nomatch e⟩
  | ref p =>
    cases r
    rcases ty with ⟨rfl, xs, hq⟩ | ⟨rfl, o, hk, hc, hd⟩ | ⟨rfl, hk⟩ | ⟨rfl, S, n, hk⟩
    · obtain ⟨its, _, pl, _⟩ := I.list hq
      refine ⟨pl.isList.typeIs, fun a e => ?_⟩
      cases e
      obtain ⟨o, n, e, c, hd, _⟩ := pl
      exact ⟨o, e, hd⟩
    · refine ⟨⟨o, I.kIn p o hk, hc⟩, fun a e => ?_⟩
      cases e
      exact ⟨o, I.kIn _ o hk, hd⟩
    · have z : ∃ o, s.heap.get? p = some o ∧ o.ExactDict := by
        rcases hk with ⟨kvs, hk⟩ | ⟨kvs, hk⟩
        · obtain ⟨_, _, _, _, o, _, _, e, ex, _⟩ := I.hok p _ hk
          exact ⟨o, e, ex⟩
        · obtain ⟨_, _, _, _, o, _, _, e, ex, _⟩ := I.hok p _ hk
          exact ⟨o, e, ex⟩
      obtain ⟨o, e, ex⟩ := z
      refine ⟨⟨o, e, ex.1⟩, fun a e2 => ?_⟩
      cases e2
      exact ⟨o, e, ex.2.1⟩
    · obtain ⟨o, _, _, _, e, ex, _⟩ := I.hok p _ hk
      refine ⟨⟨o, e, ex.1⟩, fun a e2 => ?_⟩
      cases e2
      exact ⟨o, e, ex.2.1⟩
  | _ => exact False.elim ty
noncomputable def tBM (K : PySem.W.Frag) (T : String) (r : V → List V → Hp → VK → Prop) (to : TE) (t : TA) : TE := fun σ H Q => to σ H fun x H1 => tyV K T x H1 ∧ t σ H1 fun xs H2 => r x xs H2 Q
variable {o e : Expr} {es : List Expr} {to : TE} {t : TA} {name : Str} {apos cpos : Pos} {T id : String} {r : V → List V → Hp → VK → Prop}
theorem pe_bm (pa : PlainAttrs T) (slot : Slot T name id) (hty : typeOf (.builtin id) = pure (.type "method_descriptor")) (hm : MtR X id r) (ho : PE X o to) (ha : PA X (e :: es) t)
    (hbase : attributeBase o name X.env (eval o X.env) = eval o X.env := by rfl)
    (hfew : ((backTo cpos (starEach (e :: es) X.env)).all (fun x => !x.1) && (backToKw cpos (keywordEach [] X.env)).all (fun x => x.1.isSome)
      && decide ((e :: es).length + ([] : List Keyword).length + (if ([] : List Keyword).isEmpty then 0 else 1) < 30)) = true := by rfl)
    (hline : (apos.endLine == cpos.line) = true := by rfl) (hs : starEach (e :: es) X.env = (false, eval e X.env) :: starEach es X.env := by rfl) (hplain : (backTo cpos (starEach es X.env)).any (·.1) = false := by rfl) :
    PE X (.Call (.Attribute o name apos) (e :: es) [] cpos) (tBM X.K T r to t) := by
  intro pins s σ H Q I h
  (refine wpAny_Call_method_late hbase hfew hline rfl (thn (ho pins s σ H _ I h) ?_); rintro v s1 ⟨x, H1, I1, r1, ty, q1⟩)
  obtain ⟨h1, h2⟩ := tyV_is I1 r1 ty
  refine ⟨T, id, pa, slot, hty, h1, h2, ?_⟩
  have hA := ha cpos pins s1 σ H1 _ I1 q1
  rw [hs] at hA ⊢
  refine Calls.callWith_builtin (by show (false || (backTo cpos (starEach es X.env)).any (·.1)) = false; rw [hplain] <;> rfl) (Calls.evalArgs_plain ?_)
  (refine thn hA ?_; rintro us s2 ⟨vs, H2, I2, r2, q2⟩; exact hm pins s2 σ H2 x vs v us Q I2 r1 r2 q2)
/- xs.append(e), list.index on a module's tuple .. are MtR facts of 06m -/
end
end L2

namespace L2
open PySem PySem.Spec PyProof.Rows

noncomputable def MtM (X : Cx) (id : String) (r : V → List V → Hp → VK → Prop) : Prop :=
  ∀ (pins : List (Addr × Obj)) (s : Shared) (σ : St) (H : Hp) (x : V) (xs : List V) (v : Value) (us : List Value) (Q : VK), Inv X pins σ H s → RelV x v → Vals xs us → r x xs H Q →
    wpAny (model X.prog X.w) X.A (call (.builtin id) (v :: us)) (EP X pins σ Q) X.xe s

/-! ### lists of values -/
theorem Vals.one : ∀ {x : V} {us : List Value}, Vals [x] us → ∃ u, us = [u] ∧ RelV x u
  | _, _, .cons r .nil => ⟨_, rfl, r⟩
theorem Vals.two : ∀ {x y : V} {us : List Value}, Vals [x, y] us → ∃ u v, us = [u, v] ∧ RelV x u ∧ RelV y v
  | _, _, _, .cons r (.cons q .nil) => ⟨_, _, rfl, r, q⟩
theorem Vals.zero : ∀ {us : List Value}, Vals [] us → us = []
  | _, .nil => rfl
theorem Vals.reverse {xs : List V} {us : List Value} (h : Vals xs us) : Vals xs.reverse us.reverse := by
  induction h with
  | nil => exact .nil
  | cons r t ih => rw [List.reverse_cons, List.reverse_cons]; exact Vals.append ih (.cons r .nil)
theorem Vals.rep {xs : List V} {us : List Value} (h : Vals xs us) : ∀ k : Nat, Vals (List.replicate k xs).flatten (List.replicate k us).flatten
  | 0 => .nil
  | k + 1 => by
    rw [List.replicate_succ, List.replicate_succ, List.flatten_cons, List.flatten_cons]
    exact Vals.append h (Vals.rep h k)
theorem foldl_rep (its : List Value) : ∀ (k : Nat) (acc : List Value),
    List.foldl (fun x1 x2 => x1 ++ x2) acc.toArray (List.replicate k its.toArray) = (acc ++ (List.replicate k its).flatten).toArray
  | 0, acc => by simp
  | k + 1, acc => by
    have e : acc.toArray ++ its.toArray = (acc ++ its).toArray := by simp
    have e2 : (acc ++ its) ++ (List.replicate k its).flatten = acc ++ (List.replicate (k + 1) its).flatten := by
      rw [List.replicate_succ, List.flatten_cons, List.append_assoc]
    rw [← e2, ← foldl_rep its k (acc ++ its), ← e, List.replicate_succ, List.foldl_cons]

section
variable {X : Cx} {pins : List (Addr × Obj)} {σ : St} {H : Hp} {s : Shared} {l b : Addr} {xs ys zs : List V}

/-! ### the two steps: a tracked list is rewritten, a new list is laid -/
theorem Inv.lset {its its' : List Value} {n : Nat} {f : Array Value → Array Value} {t' : Nat} (I : Inv X pins σ H s) (hH : H l = some (.lst xs))
    (e : s.heap.get? l = some { cls := .type "list", data := .seq its.toArray n }) (hf : f its.toArray = its'.toArray) (hv : Vals ys its') (hz : ys.length ≤ sizeLine) :
    Inv X pins σ (upd H l (.lst ys)) { s with heap := s.heap.update l (Obj.mapSeq f), toks := t' } := by
  have q := PySem.IsL.update e f
  rw [hf] at q
  refine I.write (x := l) (e := l) (by rw [hH]; exact trivial) (.inl rfl) (fun b' u hb hu => (Heap.get?_update_other s.heap (Obj.mapSeq f) (Ne.symm hb)).trans hu) ⟨_, q⟩ ?_
  exact ⟨hz, its', _, hv, q⟩
theorem Inv.lnew {its : List Value} {t' : Nat} (I : Inv X pins σ H s) (hv : Vals ys its) (hz : ys.length ≤ sizeLine) :
    Inv X pins σ (upd H s.heap.objs.size (.lst ys)) { s with heap := s.heap.push { cls := .type "list", data := .seq its.toArray }, toks := t' } :=
  I.laid (fun _ _ q => Heap.get?_push_of_some _ q) (Nat.le_refl _) ⟨hz, its, 0, hv, Heap.get?_push_size _ rfl⟩
theorem Inv.fresh (I : Inv X pins σ H s) : H s.heap.objs.size = none := I.hok.fresh (Nat.le_refl _)
theorem Inv.lstM (I : Inv X pins σ H s) (hH : H l = some (.lst xs)) : xs.length ≤ sizeLine ∧ ∃ (its : List Value) (n : Nat), Vals xs its ∧ xs.length = its.length ∧ s.heap.get? l = some { cls := .type "list", data := .seq its.toArray n } := by
  obtain ⟨z, its, n, r, e⟩ := I.hok l _ hH
  exact ⟨z, its, n, r, r.length, e⟩

theorem notLongL {n : Nat} (h : n ≤ sizeLine) : Builtin.List.listTooLong n = false := by
  unfold Builtin.List.listTooLong
  exact decide_eq_false (by omega)
end

section
variable {X : Cx}

/-! ### methods -/
noncomputable def rAppend : V → List V → Hp → VK → Prop := fun x vs H Q => ∃ l xs y, x = .ref l ∧ vs = [y] ∧ H l = some (.lst xs) ∧ xs.length < sizeLine ∧ Q .non (upd H l (.lst (xs ++ [y])))
theorem mt_append : MtM X "list.append" rAppend := by
  intro pins s σ H x vs v us Q I rx rv h
  obtain ⟨l, xs, y, rfl, rfl, hH, hz, q⟩ := h
  cases rx
  obtain ⟨u, rfl, ru⟩ := rv.one
  obtain ⟨z, its, n, r, hl, e⟩ := I.lstM hH
  refine call_meets F.slot_list_append ⟨_, e, rfl⟩ F.entry_list_append (F.args_list_append_2 _ _) (PySem.list_append l its.toArray n u (by rw [List.size_toArray]; omega)) ⟨e, ?_⟩
  refine ⟨.non, _, I.lset (its' := its ++ [u]) hH e (by simp) (r.append (.cons ru .nil)) ?_, rfl, q⟩
  rw [List.length_append, List.length_singleton]
  omega

noncomputable def rExtend : V → List V → Hp → VK → Prop := fun x vs H Q => ∃ l b xs zs, x = .ref l ∧ vs = [.ref b] ∧ H l = some (.lst xs) ∧ H b = some (.lst zs) ∧ xs.length + zs.length ≤ sizeLine ∧ Q .non (upd H l (.lst (xs ++ zs)))
theorem mt_extend : MtM X "list.extend" rExtend := by
  intro pins s σ H x vs v us Q I rx rv h
  obtain ⟨l, b, xs, zs, rfl, rfl, hH, hB, hz, q⟩ := h
  cases rx
  obtain ⟨u, rfl, ru⟩ := rv.one
  cases ru
  obtain ⟨z, its, n, r, hl, e⟩ := I.lstM hH
  obtain ⟨z2, its2, n2, r2, hl2, e2⟩ := I.lstM hB
  have hsz : its.toArray.size + its2.toArray.size ≤ sizeLine := by rw [List.size_toArray, List.size_toArray]; omega
  have hlong : ¬ (!its.toArray.isEmpty && Builtin.List.listTooLong (its.toArray.size + its2.toArray.size)) = true := by
    rw [notLongL hsz, Bool.and_false]
    exact Bool.false_ne_true
  refine call_meets F.slot_list_extend ⟨_, e, rfl⟩ F.entry_list_extend (F.args_list_extend_2 _ _)
    (AutoSeq1.list_extend_list_list_0 l its.toArray n b its2.toArray n2 hlong (by rw [List.size_toArray]; omega) (by omega)) ⟨e, e2, ?_⟩
  refine ⟨.non, _, I.lset (its' := its ++ its2) hH e (by simp) (r.append r2) ?_, rfl, q⟩
  rw [List.length_append]
  omega





/-! ### list + list, list += list, list * int -/
noncomputable def rCat : R2 := fun x y H Q => ∃ l b xs zs, x = .ref l ∧ y = .ref b ∧ H l = some (.lst xs) ∧ H b = some (.lst zs) ∧ xs.length + zs.length ≤ sizeLine ∧ ∀ p, H p = none → Q (.ref p) (upd H p (.lst (xs ++ zs)))
theorem op_cat : OpR X (binaryOp .Add) rCat := by
  intro pins s σ H x y v u Q I rx ry h
  obtain ⟨l, b, xs, zs, rfl, rfl, hH, hB, hz, q⟩ := h
  cases rx
  cases ry
  obtain ⟨z, its, n, r, hl, e⟩ := I.lstM hH
  obtain ⟨z2, its2, n2, r2, hl2, e2⟩ := I.lstM hB
  refine PySem.P.add_list e e2 ?_ (by rw [List.size_toArray, List.size_toArray]; omega)
  have ea : its.toArray ++ its2.toArray = (its ++ its2).toArray := by simp
  rw [ea]
  exact ⟨.ref _, _, I.lnew (t' := s.toks) (r.append r2) (by rw [List.length_append]; omega), rfl, q _ I.fresh⟩
/-- a list times an int (a negative one is nothing) -/
noncomputable def rRep : R2 := fun x y H Q => ∃ l k xs, x = .ref l ∧ y = .int k ∧ H l = some (.lst xs) ∧ -(2 ^ 63) ≤ k ∧ k < 2 ^ 63 ∧ xs.length * k.toNat ≤ sizeLine ∧
  ∀ p, H p = none → Q (.ref p) (upd H p (.lst (List.replicate k.toNat xs).flatten))
theorem len_rep {α : Type} (xs : List α) (k : Nat) : (List.replicate k xs).flatten.length = k * xs.length := by
  induction k with
  | zero => simp
  | succ k ih => rw [List.replicate_succ, List.flatten_cons, List.length_append, ih, Nat.succ_mul, Nat.add_comm]
theorem op_rep : OpR X (binaryOp .Mult) rRep := by
  intro pins s σ H x y v u Q I rx ry h
  obtain ⟨l, k, xs, rfl, rfl, hH, h1, h2, hz, q⟩ := h
  cases rx
  obtain ⟨t, rfl⟩ := ry
  obtain ⟨z, its, n, r, hl, e⟩ := I.lstM hH
  have hlen : its.toArray.size * k.toNat ≤ sizeLine := by rw [List.size_toArray, ← hl]; exact hz
  have hcap : ¬ its.toArray.size * k.toNat > (2 ^ 63 - 1) / 8 := by
    have : (sizeLine : Nat) ≤ (2 ^ 63 - 1) / 8 := by decide
    omega
  have hfit : ¬ (!Builtin.List.listFitsIndex k) = true := by
    rw [fitsIndex_both h1 h2]
    exact Bool.false_ne_true
  have hlong : ¬ Builtin.List.listTooLong (its.toArray.size * k.toNat) = true := by
    rw [notLongL hlen]
    exact Bool.false_ne_true
  have hnew : List.foldl (fun x1 x2 => x1 ++ x2) #[] (List.replicate (if its.toArray.isEmpty = true then 0 else k.toNat) its.toArray) = (List.replicate k.toNat its).flatten.toArray := by
    have f0 : ∀ m : Nat, List.foldl (fun x1 x2 => x1 ++ x2) #[] (List.replicate m its.toArray) = (List.replicate m its).flatten.toArray := fun m => by
      have := foldl_rep its m []
      rw [List.nil_append] at this
      exact this
    rw [f0]
    cases its with
    | nil => simp
    | cons a r' => rw [if_neg (by simp)]
  refine wpAny_binaryOp_repeat_ref (T := "list") (U := "int") (by decide) ⟨_, e, rfl⟩ (fun s' => typeIs_int s' k t) noFill_list_mul F.fills_int_mul F.slot_int_rmul repeat_list F.slot_int_index.lookup
    (call_meets F.slot_int_rmul (typeIs_int s k t) F.entry_int_rmul (F.args_int_rmul_2 _ _) (int___rmul___int_list k t l its.toArray n)
      ⟨e, rfl, ⟨_, e, rfl⟩, call_meets F.slot_list_mul ⟨_, e, rfl⟩ F.entry_list_mul (F.args_list_mul_2 _ _) (AutoListH.list___mul___list_int_3 l its.toArray n k t hfit hcap hlong) ⟨e, ?_⟩⟩)
  rw [hnew]
  exact ⟨.ref _, _, I.lnew (t' := s.toks) (r.rep k.toNat) (by rw [len_rep, Nat.mul_comm]; exact hz), rfl, q _ I.fresh⟩

/-! ### del xs[i] -/
end

/-! ### xs[a:b] = ys -/
section
variable {prog : Program} {w : World} {A : Around} {E : Value → Shared → Prop} {s : Shared}
end

section
variable {X : Cx}
end
end L2

namespace Att
open PySem PySem.W PySem.Calls PyProof.Rows

/-! ### the script -/
theorem ints_of_wellAll {P : Params} {h : Heap} : ∀ (ns : List Int) (vs : List Value), WellAll P h vs (ns.map WData.int) → IntsAre vs ns := by
  intro ns
  induction ns with
  | nil =>
    intro vs w
    rw [List.map_nil] at w
    cases w
    exact .nil
  | cons n ns ih =>
    intro vs w
    rw [List.map_cons] at w
    cases w with
    | cons a b =>
      cases a
      exact .cons _ _ (ih _ b)

theorem script_of {l : OpenLaw} {n : Nat} (hn : l.most = some n) {P : Params} {h : Heap} {args : List WData} {vals : List Value}
    (hpre : l.row.toRowW.claim.pre args = true) (hwl : WellAll P h vals args) :
    ∃ a vs ns, vals = [Value.ref a] ∧ args = [WData.list (ns.map WData.int)] ∧ h.get? a = some { cls := .type "list", data := .seq vs.toArray } ∧ IntsAre vs ns ∧ ns.length ≤ n := by
  have hsh : WShape.hasAll [] args [.list .int] = true := (pre_splitW hpre).1
  have hc : l.pre.holds [] { args := args } = true := (pre_splitW hpre).2
  obtain ⟨d, r, rfl, h1, h2⟩ := hasAllW_cons hsh
  obtain rfl := hasAllW_nil h2
  obtain ⟨xs, rfl, h3⟩ := hasW_list h1
  obtain ⟨ns, rfl⟩ := items_int h3
  have hlen : ns.length ≤ n := by
    unfold OpenLaw.pre at hc
    have h4 : (WTm.not (.lt (.lit (.int (n : Int))) (.len (.arg 0)))).holds [] { args := [.list (ns.map .int)] } = true := by
      have h4 := (holds_andW hc).1
      rw [hn] at h4
      exact h4
    have h5 := condW_of h4 (w_not (w_lt w_lit (w_len_list (w_arg rfl))))
    rw [List.length_map] at h5
    refine Nat.le_of_not_lt fun q => ?_
    have q' : (n : Int) < ((ns.length : Nat) : Int) := by omega
    first
      | (rw [decide_eq_true q'] at h5; exact absurd h5 (by decide))
      | (simp at h5; omega)
  cases hwl with
  | cons w1 w2 =>
    cases w2
    cases w1 with
    | list ho hall => exact ⟨_, _, ns, rfl, rfl, ho, ints_of_wellAll ns _ hall, hlen⟩

theorem post_true (l : OpenLaw) (args : List WData) : l.row.toRowW.claim.post args (.bool true) args = true :=
  postW_of (r := l.row.toRowW) (X := (true == true))
    (show WShape.has [] (.bool true) .bool = true by first | rfl | decide | simp [WShape.has, WShape.arms, WShape.armsAll])
    (show (WTm.eq .res (.lit (.bool true))).value [] { args := args, res := some (.bool true), after := args } = some (.bool (true == true)) from w_eq_bool (w_res rfl) w_lit) rfl

/-! ### the attachment: holds_open's last premise (the goal 'hc' behind k_head) from a wpAny of the law's body -/

/-- the same from a codeAny of the CALL (for a layer whose function contracts speak of calls) -/
theorem attach_call {l : OpenLaw} {n : Nat} {q : Program} {loose : List Str} {XP : (Str → Option Value) → Heap → Prop} {YP : World → Heap → Prop} {d : DefRec}
    (hn : l.most = some n) (hdf : d.params.defaults = [])
    (call : ∀ (w : World) (s₀ s₁ : Shared) (mg mb : Str → Option Value) (fa : Addr) (o : Obj) (pm cd doc : Value) (a : Addr) (vs : List Value) (ns : List Int),
      Ground q loose [] XP w s₀ mg mb s₁.heap → YP w s₁.heap →
      s₁.heap.get? fa = some o → o.data = .func (docDef d.name d.params d.body d.scope pm cd doc) → s₁.heap.CodeRec cd d.name → mg d.name = some (.ref fa) →
      s₁.heap.get? a = some { cls := .type "list", data := .seq vs.toArray } → IntsAre vs ns → ns.length ≤ n → s₁.gens = #[] →
      codeAny (model l.prog w) callerA (.call (.ref fa) ⟨[.ref a], []⟩) (fun r s' => r = .ok (.ret (.bool true)) ∧ OldK s₁.heap s'.heap ∧ s'.os = s₁.os ∧ AllBare s'.gens) s₁) :
    WalkO q loose XP YP l.row.toRowW d [] (fun f vs => PySem.call f vs) := by
  intro w s₀ s₁ mg mb G Y fa o pm cd doc dV kV ho hd hcd hD hmg hg args vals as hpre hlay hrd hwl hlo
  obtain rfl : dV = .none := Dflts.none hD hdf
  obtain rfl : kV = .none := Dflts.noKw hD
  obtain ⟨a, vs, ns, rfl, rfl, hobj, hints, hlen⟩ := script_of hn hpre hwl
  refine enter_call (codeAny_mono (call w s₀ s₁ mg mb fa o pm cd doc a vs ns G Y ho (fd_plain hd) hcd hmg hobj hints hlen hg) fun r s' hq => ?_)
  obtain ⟨rfl, h2, h3, h4⟩ := hq
  exact ⟨.inl ⟨.bool true, .bool true, [], rfl, fun _ => rfl, .bool true, post_true l _, fun _ => ⟨List.Pairwise.nil, fun _ hm => (nomatch hm)⟩⟩, h2, h3, h4⟩


/-! ### rules over ANY heap (no ledger) from facts about the written part K: the library's own take a ledger (News) for what they write -/
section
variable {prog : Program} {w : World} {A : Around} {E : Value → Shared → Prop} {s : Shared} {K : Frag}





/-! the whole heap as the ledger: makes every rule that writes through a ledger a rule over any heap -/

end
end Att

namespace L2
open PySem PySem.Spec PyProof.Rows

theorem vals_ints : ∀ {vs : List Value} {ns : List Int}, IntsAre vs ns → Vals (ns.map V.int) vs
  | _, _, .nil => .nil
  | _, _, .cons n t h => .cons ⟨t, rfl⟩ (vals_ints h)

/-- nothing is tracked but the script, known to the object (or it is an object of the module) -/
noncomputable def Only (H : Hp) : Prop := ∀ b, H b = none ∨ ∃ o xs, H b = some (.frz o (.lst xs))

/-- THE HEAD: the law's promise, at the heap behind the top. F, the promise of the law's def, may use that base is part of the heap (so K.In base, base.Ns mainGlobals mg stand in Mod) -/
theorem law_call {P : Program} {w : World} {K : PySem.W.Frag} {mg mb : Str → Option Value} {CX : CXT} {k : Nat} {fa a : Addr} {fd : FuncData} {x : Str} {sp : Sp} {s₁ : Shared} {vs : List Value} {ns : List Int}
    (KX : K.In s₁.heap) (hns : s₁.heap.Ns mainGlobals mg) (hb : s₁.heap.Ns builtinsNs mb) (hbb : ∀ x : Str, x ≠ "__name__" → mb x = bootBuiltins x) (hlim : s₁.heap.NoLimit) (hg : s₁.gens = #[])
    (ha : s₁.heap.get? a = some { cls := .type "list", data := .seq vs.toArray }) (hi : IntsAre vs ns) (hl : ns.length ≤ sizeLine) (hr : Room k callerA)
    (F : ∀ base : Heap, K.In base → base.Ns mainGlobals mg → FnOk P w K mg base CX k fa fd [x] sp) (hbind : ∀ (s : Shared) (u : Value), BindsTo s fd ⟨[u], []⟩ [(x, u)])
    (hsp : ∀ H : Hp, Only H → SqL K H a (ns.map V.int) → sp [.ref a] H (fun v _ => v = .bl true) fun _ _ _ => False)
    (hCX : ∀ H e s', CX [] H s₁ (fun _ _ _ => False) e s' → False) :
    codeAny (model P w) callerA (.call (.ref fa) ⟨[.ref a], []⟩) (fun r s' => r = .ok (.ret (.bool true)) ∧ OldK s₁.heap s'.heap ∧ s'.os = s₁.os ∧ AllBare s'.gens) s₁ := by
  have rv := vals_ints hi
  have lenV := hi.length
  -- from an abstract heap in which nothing but the script may be tracked
  have core : ∀ H : Hp, Only H → SqL K H a (ns.map V.int) → HOk P w H s₁.heap → (∀ b, H b ≠ none → b = a) → (H a ≠ none → K.lookup a = none) →
      codeAny (model P w) callerA (.call (.ref fa) ⟨[.ref a], []⟩) (fun r s' => r = .ok (.ret (.bool true)) ∧ OldK s₁.heap s'.heap ∧ s'.os = s₁.os ∧ AllBare s'.gens) s₁ := by
    intro H hO hS hok hA hK
    have base_of : ∀ {b : Addr} {o : Obj}, s₁.heap.get? b = some o → H b = none → (hidT s₁.heap H).get? b = some o := fun e n => hidT_get e n
    have noA : ∀ {b : Addr} {o : Obj} {es : Array DictEntry} {ep : Nat}, s₁.heap.get? b = some o → o.data = .dict es ep → H b = none := fun {b o es ep} e d => by
      cases q : H b with
      | none => rfl
      | some u =>
        have e' : b = a := hA b (by rw [q]; simp)
        subst e'
        rw [ha] at e; cases e
        have d' : Data.seq vs.toArray _ = Data.dict es ep := d
        cases d'
    have nsK : ∀ {b : Addr} {m : Str → Option Value}, s₁.heap.Ns b m → (hidT s₁.heap H).Ns b m := fun {b m} ⟨o, es, ep, e, d, r⟩ => ⟨o, es, ep, base_of e (noA e d), d, r⟩
    have hKb : K.In (hidT s₁.heap H) := fun b o e => base_of (KX b o e) (by
      cases q : H b with
      | none => rfl
      | some u =>
        have e' : b = a := hA b (by rw [q]; simp)
        subst e'
        rw [hK (by rw [q]; simp)] at e; cases e)
    have hM : Mod K mg (hidT s₁.heap H) := ⟨hKb, nsK hns, ⟨mb, nsK hb, hbb⟩, let ⟨mc, h1, h2⟩ := hlim; ⟨mc, nsK h1, h2⟩⟩
    have e0 : Env0 P w K mg (hidT s₁.heap H) callerA [] s₁ H := ⟨rfl, hM, fun b o e => of_hidT e, Nat.le_of_eq (hidT_size _ _), trivial, fun b hb => absurd (show b ∈ ([] : List Addr) from hb) (by simp), hok, .of_eq hg⟩
    refine codeAny_mono ((F _ hKb (nsK hns)).run callerA [] s₁ H ⟨[.ref a], []⟩ [.ref a] [.ref a] _ _ hr e0 (hbind s₁ (.ref a)) (.cons rfl .nil) (hsp H hO hS)) fun r s' h => ?_
    cases r with
    | error e => exact (hCX H e s' h).elim
    | ok fl =>
      cases fl with
      | next => exact False.elim h
      | brk => exact False.elim h
      | cont => exact False.elim h
      | ret u =>
        obtain ⟨v, H', os, bare, un, hok', r', q⟩ := h
        have q' : v = .bl true := q
        subst q'
        obtain rfl : u = Value.bool true := r'
        refine ⟨rfl, OldK.of_keep fun b o e => ?_, os, bare⟩
        cases q : H b with
        | none => exact un.keep b o e q (by intro z; exact absurd (show b ∈ ([] : List Addr) from z) (by simp)) (by simp)
        | some u =>
          rcases hO b with z | ⟨ob, xs, z⟩
          · rw [q] at z; cases z
          · have z2 := un.frzs b ob _ z
            obtain ⟨e1, _⟩ := hok b _ z
            obtain ⟨e2, _⟩ := hok' b _ z2
            rw [e] at e1; cases e1
            exact e2
  cases hk : K.lookup a with
  | some o =>
    -- the script is one of the module's own objects
    have e := KX a o hk
    rw [ha] at e
    cases e
    refine core (fun _ => none) (fun _ => .inl rfl) (.inr ⟨_, vs.toArray, _, hk, rfl, rfl, rfl, by rw [List.size_toArray, lenV]; exact hl, by simpa using rv⟩) (fun b u z => by have z' : (none : Option HO) = some u := z; cases z') (fun b z => absurd rfl z) fun z => absurd rfl z
  | none =>
    refine core (fun b => if b = a then some (.frz { cls := .type "list", data := .seq vs.toArray } (.lst (ns.map V.int))) else none) (fun b => ?_) (.inl (.inr ⟨{ cls := .type "list", data := .seq vs.toArray }, if_pos rfl⟩)) (fun b u z => ?_) (fun b z => ?_) fun _ => hk
    · by_cases hb : b = a
      · exact .inr ⟨_, _, if_pos hb⟩
      · exact .inl (if_neg hb)
    · by_cases hb : b = a
      · have z' := (if_pos hb).symm.trans z
        cases z'
        subst hb
        exact ⟨ha, by rw [List.length_map]; exact hl, vs, _, rv, ha⟩
      · have z' := (if_neg hb).symm.trans z
        cases z'
    · by_cases hb : b = a
      · exact hb
      · exact absurd (if_neg hb) z
end L2

namespace L2
open PySem PySem.Spec PyProof.Rows


/-- the goal that k_head leaves (case hc), from the law's promise. F gives the function object fd (K's own) once, then the promise over every base -/
theorem walk_of {l : PySem.W.OpenLaw} {n k : Nat} {q : Program} {loose : List Str} {XP : (Str → Option Value) → Heap → Prop} {YP : World → Heap → Prop} {d : DefRec} {K : Params → PySem.W.Frag} {CX : World → CXT} {sp : World → Sp} {x : Str}
    (hn : l.most = some n) (hn2 : n ≤ sizeLine) (hdf : d.params.defaults = []) (hr : Room k callerA)
    (hY : ∀ (w : World) (h : Heap), YP w h → (K w.params).In h)
    (F : ∀ (w : World) (mg : Str → Option Value) (fa : Addr) (h : Heap), (K w.params).In h → h.Ns mainGlobals mg → mg d.name = some (.ref fa) →
      ∃ fd : FuncData, (∀ (s : Shared) (u : Value), BindsTo s fd ⟨[u], []⟩ [(x, u)]) ∧
        ∀ base : Heap, (K w.params).In base → base.Ns mainGlobals mg → FnOk l.prog w (K w.params) mg base (CX w) k fa fd [x] (sp w))
    (hsp : ∀ (w : World) (H : Hp) (a : Addr) (ns : List Int), ns.length ≤ n → Only H → SqL (K w.params) H a (ns.map V.int) → sp w [.ref a] H (fun v _ => v = .bl true) fun _ _ _ => False)
    (hCX : ∀ (w : World) (H : Hp) (s : Shared) (e : Value) (s' : Shared), CX w [] H s (fun _ _ _ => False) e s' → False) :
    PySem.W.WalkO q loose XP YP l.row.toRowW d [] (fun f vs => PySem.call f vs) := by
  refine Att.attach_call hn hdf fun w s₀ s₁ mg mb fa o pm cd doc a vs ns G Y ho hd hcd hmg hobj hints hlen hg => ?_
  have KX := hY w _ Y
  obtain ⟨fd, hb, hF⟩ := F w mg fa _ KX G.T.g hmg
  exact law_call KX G.T.g G.T.b G.T.builtins G.T.nolimit hg hobj hints (Nat.le_trans hlen hn2) hr hF hb (fun H hO hS => hsp w H a ns hlen hO hS) fun H e s' => hCX w H s₁ e s'
end L2

/- THE LAST THEOREM (shape; LID, My.* are yours):
   My.Adr: a structure of the addresses that your layer names (classes, functions); My.Txt K t: a structure (Prop) of the equations over K;
   My.txt_mk : {K} {implicit addresses ..} (e1 : nsIn K mainGlobals "law" = some (some (.ref f))) (e2 : K.lookup f = some ⟨oc, od, .func (fnOf "law" "law" params body scope dV kV doc pm an cdv ct), sl⟩) (e3 : codeIn K cdv "law" = true) .. : ∃ t, My.Txt K t

set_option maxHeartbeats 0 in
theorem PySem.Challenge.cw_LID_holds : PySem.Challenge.rw_LID.Holds := by
  w_on; o_law; k_head; (case hw => w_witness2)
  k_fill
  refine L2.walk_of (l := PySem.Challenge.rw_LID) (n := 63) (k := 40) (x := "script") (CX := fun w => ..) (sp := fun _ => My.sp_law) rfl (by decide) rfl ⟨rfl, by decide, by decide⟩ (fun w h Y => PySem.W.kIn_of Y) ?F ?S ?C
  case F =>
    intro w mg fa h KX G hmg
    have T : ∃ t, My.Txt (L2.KOf KX) t := by
      dsimp only [L2.KOf]                          -- K must stand as «<heap const> w.params» for k_is
      refine' My.txt_mk ?e1 ?e2 ?e3 ..
      (case e1 => PySem.W.k_is)                    -- in the order: a name -> its address -> its object -> its parts
      (case e2 => PySem.W.k_is)
      ..
    obtain ⟨t, T⟩ := T
    have e0 := hmg.symm.trans (PySem.W.mg_of KX G T.law)
    cases e0                                       -- fa is the law's own address
    exact ⟨_, fun s u => .of_eq rfl, fun base kb nb => My.law_fn T kb nb⟩     -- if «.of_eq rfl» comes too early: refine' ⟨_, ?b, fun base kb nb => My.law_fn T kb nb⟩; exact fun s u => .of_eq rfl
  case S => exact fun w H a ns hl hO hS => ..
  case C => exact ..
(the tactic k_is has no namespace: write k_is) -/

/-! SHORT WORDS over the layer: a def of the text, its body, what a loop and a test want. -/
namespace L2
open PySem PySem.Spec PyProof.Rows

/-! ### the text by places -/
/-- the j-th statement of a class's body -/
noncomputable def inClass (s : Stmt) (j : Nat) : Stmt := match s with
  | .ClassDef _ _ _ body _ _ _ _ _ _ _ => body.getD j (.Pass ⟨0, 0, 0, 0⟩)
  | _ => .Pass ⟨0, 0, 0, 0⟩
noncomputable def defArgs (s : Stmt) : Arguments := match s with
  | .FunctionDef _ a _ _ _ _ _ _ _ _ => a
  | _ => { posonlyargs := [], args := [], vararg := none, kwonlyargs := [], kw_defaults := [], kwarg := none, defaults := [] }
noncomputable def defBody (s : Stmt) : List Stmt := match s with
  | .FunctionDef _ _ b _ _ _ _ _ _ _ => b
  | _ => []
noncomputable def defScope (s : Stmt) : Scope := match s with
  | .FunctionDef _ _ _ _ _ _ sc _ _ _ => sc
  | _ => { kind := .function, names := [], isGenerator := false, isCoroutine := false }

/-! ### no exception leaves a def -/
noncomputable abbrev CX0 : CXT := fun _ _ _ _ _ _ => False
noncomputable abbrev E0 : XK := fun _ _ _ => False
theorem pass0 {X : Cx} : Passes CX0 X E0 := fun _ _ _ _ _ _ _ h => h.elim

/-! ### a def (or method) of the text as it stands behind the top -/
structure Fun (K : PySem.W.Frag) (x qual : Str) (st : Stmt) (f : Addr) (fd : FuncData) : Prop where
  ex : ∃ (oc : Value) (od : Option Addr) (kV doc pm : Value) (an : Option Addr) (cdv ct : Value) (osl : Array (Option Value)),
    fd = PySem.W.fnOf x qual (defArgs st) (defBody st) (defScope st) .none kV doc pm an cdv ct ∧ K.lookup f = some ⟨oc, od, .func fd, osl⟩ ∧ PySem.W.codeIn K cdv qual = true
  kp : PySem.W.keepIn K (.ref f) = true
section
variable {P : Program} {w : World} {K : PySem.W.Frag} {mg : Str → Option Value} {base : Heap}
/-- THE RULE for a def: its body as a term of rules, and the reading of that term -/
theorem Fun.ok {x qual : Str} {st : Stmt} {f : Addr} {fd : FuncData} {N ps : List Str} {k : Nat} {sp : Sp} (F : Fun K x qual st f fd) (S : FnScope N ps (defScope st)) (len : ∀ vs H Q E, sp vs H Q E → vs.length = ps.length)
    (hbody : ∀ (cdv : Value) (A : Around) (outer : List Env) (s : Shared) (H : Hp) (vs : List V) (Q : VK) (E : XK), Room k (A.deeper (envOfC qual (defScope st) s.heap.objs.size f cdv)) → sp vs H Q E →
      ∃ t, PSs (cxOf CX0 P w K mg base N qual (defScope st) f cdv A outer s H E).nox (defBody st) t ∧ t { nx := fun _ H' => Q .non H', rt := Q } (start N vs) H) : FnOk P w K mg base CX0 (k + 1) f fd ps sp := by
  obtain ⟨oc, od, kV, doc, pm, an, cdv, ct, osl, rfl, lk, hcd⟩ := F.ex
  refine fn_of lk hcd S len fun A outer s H vs Q E hr hsp => ?_
  obtain ⟨t, h, q⟩ := hbody cdv A outer s H vs Q E hr hsp
  exact ⟨t, h.nox, q⟩
/-- how its arguments bind (no defaults): h is «fun _ _ _ _ _ _ us hl => match us, hl with | [_, _], _ => rfl», one _ a parameter -/
theorem Fun.binds {x qual : Str} {st : Stmt} {f : Addr} {fd : FuncData} {ps : List Str} (F : Fun K x qual st f fd)
    (h : ∀ (kV doc pm : Value) (an : Option Addr) (cdv ct : Value) (us : List Value), us.length = ps.length → bindArgs (PySem.W.fnOf x qual (defArgs st) (defBody st) (defScope st) .none kV doc pm an cdv ct) ⟨us, []⟩ = pure (ps.zip us)) : Binds K fd ps [] := by
  obtain ⟨oc, od, kV, doc, pm, an, cdv, ct, osl, rfl, lk, hcd⟩ := F.ex
  exact .all (h kV doc pm an cdv ct)
end

/-! ### expressions in short: the name that stands in the i-th slot -/
section
variable {X : Cx}
theorem pv (i : Nat) {x : Str} {pos : Pos} (hN : X.N[i]? = some x := by rfl) (hv : Vis X.env.scope x := by first | exact Or.inl rfl | exact Or.inr (Or.inl rfl) | exact Or.inr (Or.inr rfl)) (hd : (x == ("__debug__" : Str)) = false := by decide)
    (hcd : (x == ("__classdict__" : Str)) = false := by decide) : PE X (.Name x pos) (tVar i) := pe_var hN hv hd hcd
end

/-! ### tests -/

/-! ### heaps -/
/-- all that was tracked is as it was -/
noncomputable def Same (H H' : Hp) : Prop := ∀ b o, H b = some o → H' b = some o
theorem Same.trans {H H1 H2 : Hp} (a : Same H H1) (b : Same H1 H2) : Same H H2 := fun c o h => b c o (a c o h)
theorem Same.free {H H' : Hp} (e : Same H H') {l : Addr} (h : H' l = Option.none) : H l = Option.none := by
  cases q : H l with
  | none => rfl
  | some o =>
    rw [e l o q] at h
    cases h
theorem Same.seq {K : PySem.W.Frag} {H H' : Hp} {a : Addr} {xs : List V} (e : Same H H') (h : SqL K H a xs) : SqL K H' a xs := by
  rcases h with (h | ⟨o, h⟩) | h
  · exact .inl (.inl (e _ _ h))
  · exact .inl (.inr ⟨o, e _ _ h⟩)
  · exact .inr h

end L2

namespace L2
open PySem PySem.Spec PyProof.Rows
section
variable {X : Cx}
end
/-! ### a dict's pairs: keys that differ -/
section
variable {κ : Type} [DecidableEq κ]
end
end L2


/-! ### list comprehensions over the hand layer -/
namespace L2
open PySem PySem.Spec PyProof.Rows

theorem loop_go {prog : Program} {w : World} {A : Around} {R : Result → Shared → Prop} {s : Shared} {elt target iter : Expr} {ifs : List Expr} {scope : Scope} {pos : Pos} {it acc : Value} {env : Env} (I : Nat → Shared → Prop)
    (turn : ∀ n s, I n s → wpAny (model prog w) A (pyNext it) (fun r s₁ => match r with
      | none => R (.ok .next) s₁
      | some v => wpAny (model prog w) A (letOwnedTupleGo target it v) (fun _ s₁ => wpAny (model prog w) A (assign target env v) (fun _ s₂ =>
          wpAny (model prog w) A (forIn ifs true fun c r => if r = true then do let ok ← isTrue c env (eval c env); pure (ForInStep.yield ok) else pure (ForInStep.yield r)) (fun ok s₃ =>
            if ok = true then wpAny (model prog w) A (eval elt env) (fun x s₄ =>
              wpAny (model prog w) A (call (.builtin "list.append") [acc, x]) (fun _ s₅ => ∃ m, m < n ∧ I m s₅) (fun _ _ => False) s₄) (fun _ _ => False) s₃
            else ∃ m, m < n ∧ I m s₃) (fun _ _ => False) s₂) (fun _ _ => False) s₁) (fun _ _ => False) s₁) (fun _ _ => False) s)
    (n : Nat) (h : I n s) :
    codeAny (model prog w) A (.compLoop (.ListComp elt [⟨target, iter, ifs, 0⟩] scope pos) 0 it acc env) R s := by
  refine codeAny_loop rfl I (fun n s hI => ?_) n h
  show wpAny _ A ((compTurn (.ListComp elt [⟨target, iter, ifs, 0⟩] scope pos) 0 it acc env).onRaise (fun x => do noteFrame x env; theTreesLotGoes x)) _ _ s
  refine wpAny_noted ?_
  rw [compTurn_list]
  refine wpAny_bind (wpAny_standAt (wpAny_bind (wpAny_mono (turn n s hI) (fun r s₁ h₁ => ?_) fun _ _ h' => h'.elim)))
  cases r with
  | none => exact wpAny_pure h₁
  | some v =>
    refine wpAny_bind (wpAny_mono h₁ (fun _ s₂ h₂ => ?_) fun _ _ h' => h'.elim)
    refine wpAny_bind (wpAny_mono h₂ (fun _ s₂ h₂ => wpAny_bind (wpAny_mono h₂ (fun ok s₃ h₃ => ?_) fun _ _ h' => h'.elim)) fun _ _ h' => h'.elim)
    cases ok with
    | false => exact wpAny_pure ⟨rfl, h₃⟩
    | true =>
      exact wpAny_bind (wpAny_bind (wpAny_mono h₃ (fun x s₄ h₄ => wpAny_bind (wpAny_mono h₄ (fun _ s₅ h₅ => wpAny_pure (wpAny_pure ⟨rfl, h₅⟩)) fun _ _ h' => h'.elim)) fun _ _ h' => h'.elim))

/-- the cells that a block closes over -/
noncomputable def clOf (env : Env) : List (Str × NameKind) → List (Str × Addr) → List (Str × Addr)
  | [], cs => cs
  | (x, k) :: r, cs => clOf env r (if (k == .free) = true then (x, (env.cells.lookup x).getD 0) :: cs else cs)
theorem cellOf_some {env : Env} {x : Str} {c : Addr} (h : env.cells.lookup x = some c) : cellOf env x = pure c := by
  unfold cellOf; rw [h]
theorem closure_is {scope : Scope} {env : Env} (h : ∀ y ∈ scope.names, y.2 = .free → ∃ c, env.cells.lookup y.1 = some c) : closureFor scope env = pure (clOf env scope.names []) := by
  have key : ∀ (l : List (Str × NameKind)) (cs : List (Str × Addr)), (∀ y ∈ l, y.2 = .free → ∃ c, env.cells.lookup y.1 = some c) →
      (forIn l cs fun (y : Str × NameKind) r => if (y.2 == NameKind.free) = true then do let c ← cellOf env y.1; pure (ForInStep.yield ((y.1, c) :: r)) else pure (ForInStep.yield r) : Sem (List (Str × Addr))) = pure (clOf env l cs) := by
    intro l
    induction l with
    | nil => intro cs _; rfl
    | cons y r ih =>
      intro cs hl
      obtain ⟨x, k⟩ := y
      rw [List.forIn_cons]
      by_cases hk : k = .free
      · subst hk
        obtain ⟨c, hc⟩ := hl (x, .free) List.mem_cons_self rfl
        have e : ((NameKind.free == NameKind.free) : Bool) = true := rfl
        simp only [e, if_true, cellOf_some hc, pure_bind]
        rw [ih _ fun z hz => hl z (List.mem_cons_of_mem _ hz)]
        show _ = pure (clOf env r (if (NameKind.free == NameKind.free) = true then _ else _))
        rw [e, if_pos rfl, hc] <;> rfl
      · have e : (k == NameKind.free) = false := by simpa using hk
        simp only [e, Bool.false_eq_true, if_false, pure_bind]
        rw [ih _ fun z hz => hl z (List.mem_cons_of_mem _ hz)]
        show _ = pure (clOf env r (if (k == NameKind.free) = true then _ else _))
        rw [e, if_neg Bool.false_ne_true]
  have e : closureFor scope env = ((forIn scope.names ([] : List (Str × Addr)) fun (y : Str × NameKind) r => if (y.2 == NameKind.free) = true then do let c ← cellOf env y.1; pure (ForInStep.yield ((y.1, c) :: r)) else pure (ForInStep.yield r) : Sem (List (Str × Addr))) >>= fun cs => pure cs) := rfl
  rw [e, key scope.names [] h]
  rfl
theorem clOf_lookup {env : Env} {x : Str} {c : Addr} : ∀ {l : List (Str × NameKind)} {cs : List (Str × Addr)}, (∀ y ∈ l, y.2 = .free → ∃ c, env.cells.lookup y.1 = some c) → (∀ x c, cs.lookup x = some c → env.cells.lookup x = some c) →
    (clOf env l cs).lookup x = some c → env.cells.lookup x = some c
  | [], _, _, h, e => h x c e
  | (y, k) :: r, cs, hl, h, e => by
    refine clOf_lookup (l := r) (fun z hz => hl z (List.mem_cons_of_mem _ hz)) (fun x c e => ?_) e
    by_cases hk : k = .free
    · subst hk
      obtain ⟨d, hd⟩ := hl (y, .free) List.mem_cons_self rfl
      rw [if_pos (show (NameKind.free == NameKind.free) = true from rfl), List.lookup_cons] at e
      cases hx : x == y with
      | true => rw [hx, hd] at e; cases e; rw [eq_of_beq hx]; exact hd
      | false => rw [hx] at e; exact h x c e
    · rw [if_neg (by simpa using hk)] at e; exact h x c e
theorem clOf_has {env : Env} {x : Str} : ∀ {l : List (Str × NameKind)} {cs : List (Str × Addr)}, ((∃ c, cs.lookup x = some c) ∨ (x, NameKind.free) ∈ l) → ∃ c, (clOf env l cs).lookup x = some c
  | [], _, h => by
    rcases h with h | h
    · exact h
    · simp at h
  | (y, k) :: r, cs, h => by
    refine clOf_has (l := r) ?_
    rcases h with ⟨c, h⟩ | h
    · left
      by_cases hk : (k == NameKind.free) = true
      · rw [if_pos hk, List.lookup_cons]
        cases hx : x == y with
        | true => exact ⟨_, rfl⟩
        | false => exact ⟨c, h⟩
      · rw [if_neg hk]; exact ⟨c, h⟩
    · rcases List.mem_cons.mp h with e | h
      · injection e with e1 e2
        subst e1; subst e2
        left
        rw [if_pos (show (NameKind.free == NameKind.free) = true from rfl), List.lookup_cons]
        simp
      · exact .inr h

/-- the block's context: N' its names; s, H at its entry; fp what it walks -/
noncomputable def cxComp (X : Cx) (N' : List Str) (scope : Scope) (C : Addr) (s : Shared) (H : Hp) (fp : List Addr) : Cx :=
  { X with N := N', s₀ := s, H₀ := H, env := compEnvC scope (clOf X.env scope.names []) C X.env, outer := X.stack, ex := fp, fn := fun _ => false, pn := [], xe := fun _ _ => False }

/-- what is asked of a block's scope, over the scope around it: N' its names, ix the slots of N (around) of those that it closes over -/
structure BlkOk (X : Cx) (N' : List Str) (ix : List (Option Nat)) (scope : Scope) : Prop where
  kind : scope.kind = .function
  nocell : ∀ y ∈ scope.names, y.2 ≠ .cell
  names : ∀ y ∈ scope.names, y.2 = .local → scope.names.lookup y.1 = some .local
  frees : ∀ y ∈ scope.names, y.2 = .free → X.env.kindOf y.1 = some .cell ∨ X.env.kindOf y.1 = some .free
  len : ix.length = N'.length
  at_ : ∀ (i j : Nat) (x : Str), N'[i]? = some x → ix[i]? = some (some j) → X.N[j]? = some x ∧ scope.names.lookup x = some .free

/-- the block's slots at its entry -/
noncomputable def inner (ix : List (Option Nat)) (σ : St) : St := ix.map fun o => o.bind fun j => (σ[j]?).bind id

noncomputable def tComp (ix : List (Option Nat)) (wi : TI) (g : TG) (tc : TT) (te : TE) : TE := fun σ H Q => wi σ H fun J H1 => ∀ D, H1 D = none → ∃ W : Nat → Nat → St → Hp → Prop, (∃ m, W 0 m (inner ix σ) (upd H1 D (.lst []))) ∧ ∀ i m σi H, W i m σi H →
  (J.stop i H ∧ Q (.ref D) H) ∨ (J.go i H ∧ ∃ N : St → Hp → Prop, (∀ σ' H', N σ' H' → ∃ m', m' < m ∧ W (i + 1) m' σ' H') ∧ ∀ x H', J.yld i H x H' → g x σi H' fun σ2 H2 => tc σ2 H2 fun b H3 =>
    if b = true then te σ2 H3 fun v H4 => ∃ ys, H4 D = some (.lst ys) ∧ ys.length < sizeLine ∧ N σ2 (upd H4 D (.lst (ys ++ [v]))) else N σ2 H3)

theorem lookup_relabel_free {env : Env} {x : Str} : ∀ {names : List (Str × NameKind)}, names.lookup x = some .free → (env.kindOf x = some .cell ∨ env.kindOf x = some .free) →
    (names.map fun (n, k) => if (k == NameKind.free && env.scope.kind == .function && env.kindOf n == some .cell) then (n, NameKind.cell) else (n, k)).lookup x = some .cell ∨
    (names.map fun (n, k) => if (k == NameKind.free && env.scope.kind == .function && env.kindOf n == some .cell) then (n, NameKind.cell) else (n, k)).lookup x = some .free
  | [], h, _ => by simp at h
  | (n, k) :: r, h, ho => by
    cases hx : x == n with
    | true =>
      simp only [List.lookup_cons, hx] at h
      cases h
      by_cases hc : (NameKind.free == NameKind.free && env.scope.kind == .function && env.kindOf n == some .cell) = true
      · left
        show List.lookup x ((if (NameKind.free == NameKind.free && env.scope.kind == .function && env.kindOf n == some .cell) = true then (n, NameKind.cell) else (n, .free)) :: _) = _
        rw [if_pos hc]; simp only [List.lookup_cons, hx]
      · right
        show List.lookup x ((if (NameKind.free == NameKind.free && env.scope.kind == .function && env.kindOf n == some .cell) = true then (n, NameKind.cell) else (n, .free)) :: _) = _
        rw [if_neg hc]; simp only [List.lookup_cons, hx]
    | false =>
      simp only [List.lookup_cons, hx] at h
      have ih := lookup_relabel_free (env := env) h ho
      show List.lookup x ((if (k == NameKind.free && env.scope.kind == .function && env.kindOf n == some .cell) = true then (n, NameKind.cell) else (n, k)) :: _) = _ ∨
        List.lookup x ((if (k == NameKind.free && env.scope.kind == .function && env.kindOf n == some .cell) = true then (n, NameKind.cell) else (n, k)) :: _) = _
      by_cases hc : (k == NameKind.free && env.scope.kind == .function && env.kindOf n == some .cell) = true
      · rw [if_pos hc]; simp only [List.lookup_cons, hx]; exact ih
      · rw [if_neg hc]; simp only [List.lookup_cons, hx]; exact ih
theorem lookup_relabel_back {env : Env} {x : Str} : ∀ {names : List (Str × NameKind)}, (∀ y ∈ names, y.2 ≠ .cell) →
    ((names.map fun (n, k) => if (k == NameKind.free && env.scope.kind == .function && env.kindOf n == some .cell) then (n, NameKind.cell) else (n, k)).lookup x = some .cell ∨
    (names.map fun (n, k) => if (k == NameKind.free && env.scope.kind == .function && env.kindOf n == some .cell) then (n, NameKind.cell) else (n, k)).lookup x = some .free) → (x, NameKind.free) ∈ names
  | [], _, h => by simp at h
  | (n, k) :: r, hn, h => by
    have h : List.lookup x ((if (k == NameKind.free && env.scope.kind == .function && env.kindOf n == some .cell) = true then (n, NameKind.cell) else (n, k)) :: (r.map fun (n, k) => if (k == NameKind.free && env.scope.kind == .function && env.kindOf n == some .cell) then (n, NameKind.cell) else (n, k))) = some .cell ∨
      List.lookup x ((if (k == NameKind.free && env.scope.kind == .function && env.kindOf n == some .cell) = true then (n, NameKind.cell) else (n, k)) :: (r.map fun (n, k) => if (k == NameKind.free && env.scope.kind == .function && env.kindOf n == some .cell) then (n, NameKind.cell) else (n, k))) = some .free := h
    cases hx : x == n with
    | true =>
      have e : x = n := eq_of_beq hx
      subst e
      by_cases hc : (k == NameKind.free && env.scope.kind == .function && env.kindOf x == some .cell) = true
      · have hk : k = .free := by
          simp only [Bool.and_eq_true, beq_iff_eq] at hc
          exact hc.1.1
        subst hk; exact List.mem_cons_self
      · rw [if_neg hc] at h
        simp only [List.lookup_cons, hx, Option.some.injEq] at h
        rcases h with h | h
        · exact absurd h (hn (x, k) List.mem_cons_self)
        · subst h; exact List.mem_cons_self
    | false =>
      refine List.mem_cons_of_mem _ (lookup_relabel_back (env := env) (fun y hy => hn y (List.mem_cons_of_mem _ hy)) ?_)
      by_cases hc : (k == NameKind.free && env.scope.kind == .function && env.kindOf n == some .cell) = true
      · rw [if_pos hc] at h; simp only [List.lookup_cons, hx] at h; exact h
      · rw [if_neg hc] at h; simp only [List.lookup_cons, hx] at h; exact h
end L2
namespace L2
open PySem PySem.Spec PyProof.Rows
/-- the tests of a clause -/
noncomputable def PIfs (X : Cx) (ifs : List Expr) (t : TT) : Prop :=
  ∀ (pins : List (Addr × Obj)) (s : Shared) (σ : St) (H : Hp) (Q : Bool → Hp → Prop), Inv X pins σ H s → t σ H Q →
    wpAny (model X.prog X.w) X.A (forIn ifs true fun c r => if r = true then do let ok ← isTrue c X.env (eval c X.env); pure (ForInStep.yield ok) else pure (ForInStep.yield r)) (TP X pins σ Q) X.xe s
noncomputable def tYes : TT := fun _ H Q => Q true H
section
variable {X : Cx} {pins : List (Addr × Obj)} {σ : St} {H : Hp} {s : Shared}
theorem pifs_nil : PIfs X [] tYes := fun _ _ _ H _ I h => wpAny_tests_nil ⟨H, I, h⟩
theorem pifs_one {c : Expr} {t : TT} (h : PT X c t) : PIfs X [c] t := fun pins s σ H Q I hw => wpAny_tests_one (h pins s σ H Q I hw)

theorem Inv.blk {N' : List Str} {ix : List (Option Nat)} {scope : Scope} {fp : List Addr} {h1 : Heap} {tk : Nat} (I : Inv X pins σ H s) (B : BlkOk X N' ix scope) (f : ∀ b ∈ fp, FpOk X pins H b) (hlt : ∀ b ∈ fp, b < s.heap.objs.size)
    (ns : h1.Ns s.heap.objs.size (fun _ => none)) (old : ∀ b o, s.heap.get? b = some o → h1.get? b = some o) :
    Inv (cxComp X N' scope s.heap.objs.size s H fp) [] (inner ix σ) H { s with heap := h1, toks := tk } := by
  have hfree : ∀ y ∈ scope.names, y.2 = .free → ∃ c, X.env.cells.lookup y.1 = some c := fun y hy e => I.ok.has y.1 (B.frees y hy e)
  have hc : ∀ x c, (clOf X.env scope.names []).lookup x = some c → X.env.cells.lookup x = some c := fun x c e => clOf_lookup hfree (fun _ _ z => by cases z) e
  have stk : ∀ b ∈ fp, b ∉ frs X.stack := fun b hb z => by
    rcases List.mem_cons.mp (I.stkSub b z) with e | e
    · exact (f b hb).2.1 e
    · exact (f b hb).2.2.1 e
  refine ⟨⟨I.ok.mod, B.kind, I.ok.glob, I.ok.blt, Nat.le_refl _, fun x y c h1 h2 => I.ok.inj x y c (hc x c h1) (hc y c h2), fun x hx => ?_, fun x c h => (by cases h), I.ok.hd, I.ok.frames, .inl rfl, fun b hb => ⟨Nat.ne_of_lt (hlt b hb), fun x c e => (f b hb).2.2.2.2.1 x c (hc x c e)⟩,
      I.bs, Nat.le_trans I.ok.bsz I.sz, fun b o e hb => ?_, stk, I.stack, I.stkFree⟩, rfl, I.bare, Un.kept old, ⟨_, ns, fun i x v h1 h2 h3 => ?_⟩, fun x c e => ?_, I.hok.fresh (Nat.le_refl _), fun x c e => I.freeC x c (hc x c e), fun p hp => absurd (show p ∈ ([] : List (Addr × Obj)) from hp) (by simp), I.hok.kept old, ?_⟩
  · exact clOf_has (.inr (lookup_relabel_back B.nocell hx))
  · rcases (f b hb).2.2.2.1 with z | z
    · exact I.ok.noex b o e z
    · exact absurd (Nat.lt_of_lt_of_le (Heap.lt_size e) (Nat.le_trans I.ok.bsz z)) (Nat.lt_irrefl _)
  · have h2 : (ix.map fun o => o.bind fun j => (σ[j]?).bind id)[i]? = some (some v) := h2
    rw [List.getElem?_map] at h2
    cases ho : ix[i]? with
    | none => rw [ho] at h2; cases h2
    | some o =>
      rw [ho] at h2
      cases o with
      | none => cases h2
      | some j =>
        have h2 : (σ[j]?).bind id = some v := Option.some.inj h2
        have h2 : σ[j]? = some (some v) := by
          cases hs : σ[j]? with
          | none => rw [hs] at h2; cases h2
          | some w => rw [hs] at h2; cases h2; rfl
        obtain ⟨hN, hf⟩ := B.at_ i j x h1 ho
        have hk := B.frees (x, .free) (PySem.mem_of_lookup hf) rfl
        obtain ⟨m, hn, hl⟩ := I.loc
        obtain ⟨u, r, lk⟩ := hl j x v hN h2 (hk.elim (fun z => .inr (.inl z)) fun z => .inr (.inr z))
        refine ⟨u, r, .inr ?_⟩
        rcases lk with ⟨z, _⟩ | ⟨_, c, e, z⟩
        · rcases hk with hk | hk
          · exact absurd (hk.symm.trans z) (by decide)
          · exact absurd (hk.symm.trans z) (by decide)
        · obtain ⟨c', e'⟩ := clOf_has (env := X.env) (cs := []) (.inr (PySem.mem_of_lookup hf))
          have ec : c' = c := Option.some.inj ((hc x c' e').symm.trans e)
          subst ec
          refine ⟨lookup_relabel_free hf hk, c', e', ?_⟩
          obtain ⟨o, ho, hd⟩ := z
          exact ⟨o, old _ _ ho, hd⟩
  · obtain ⟨v, o, ho, hd⟩ := I.cell x c (hc x c e)
    exact ⟨v, o, old _ _ ho, hd⟩
  · show (inner ix σ).length = N'.length
    unfold inner
    rw [List.length_map]
    exact B.len

theorem blk_run {elt tg iter : Expr} {ifs : List Expr} {scope : Scope} {pos : Pos} {N' : List Str} {ix : List (Option Nat)} {g : TG} {tc : TT} {te : TE} {J : It} {fp : List Addr} {it : Addr} {tn : Nat → Heap → Prop} (B : BlkOk X N' ix scope)
    (hg : ∀ C s H fp, PG (cxComp X N' scope C s H fp) tg g) (hi : ∀ C s H fp, PIfs (cxComp X N' scope C s H fp) ifs tc) (he : ∀ C s H fp, PE (cxComp X N' scope C s H fp) elt te) (hc : X.calm = true)
    (I : Inv X pins σ H s) (T : Turn X.prog X.w X.K tg J fp it tn) (st : tn 0 s.heap) (f : ∀ b ∈ fp, FpOk X pins H b) {Q : VK} {E : Value → Shared → Prop}
    (w : ∃ W : Nat → Nat → St → Hp → Prop, (∃ m, W 0 m (inner ix σ) (upd H s.heap.objs.size (.lst []))) ∧ ∀ i m σi H, W i m σi H →
      (J.stop i H ∧ Q (.ref s.heap.objs.size) H) ∨ (J.go i H ∧ ∃ N : St → Hp → Prop, (∀ σ' H', N σ' H' → ∃ m', m' < m ∧ W (i + 1) m' σ' H') ∧ ∀ x H', J.yld i H x H' → g x σi H' fun σ2 H2 => tc σ2 H2 fun b H3 =>
        if b = true then te σ2 H3 fun v H4 => ∃ ys, H4 s.heap.objs.size = some (.lst ys) ∧ ys.length < sizeLine ∧ N σ2 (upd H4 s.heap.objs.size (.lst (ys ++ [v]))) else N σ2 H3))
    {RR : Value → Addr → Result → Shared → Prop} (hRR : ∀ C H' s' m, Inv X pins σ H' s' → FpOk X pins H' C → s'.heap.Ns C m → Q (.ref s.heap.objs.size) H' → RR (.ref s.heap.objs.size) C (.ok .next) s') :
    wpAny (model X.prog X.w) X.A (newList []) (fun acc s₃ => wpAny (model X.prog X.w) X.A (newFunctionEnv scope X.env.globals (clOf X.env scope.names []) [] X.env.qual none .none (some X.env)) (fun cenv s₄ =>
      codeAny (model X.prog X.w) X.A (.compStart (.ListComp elt [⟨tg, iter, ifs, 0⟩] scope pos) 0 (.ref it) acc { cenv with scope := relabel scope X.env }) (RR acc cenv.locals) s₄) E s₃) E s := by
  obtain ⟨W, ⟨m0, w0⟩, turn⟩ := w
  have flt : ∀ b ∈ fp, b < s.heap.objs.size := fun b hb => by
    obtain ⟨o, ho, _⟩ := T.obj 0 _ st b hb
    exact Heap.lt_size ho
  have I3 : Inv X pins σ (upd H s.heap.objs.size (.lst [])) { s with heap := s.heap.push { cls := .type "list", data := .seq ([] : List Value).toArray }, toks := s.toks } := I.lnew .nil (Nat.zero_le _)
  have hfr : ∀ b ∈ fp, (upd H s.heap.objs.size (.lst [])) b = none := fun b hb => by rw [upd_ne (Nat.ne_of_lt (flt b hb))]; exact (f b hb).1
  have f3 : ∀ b ∈ fp, FpOk X pins (upd H s.heap.objs.size (.lst [])) b := fun b hb => ⟨hfr b hb, (f b hb).2⟩
  refine wpAny_newObj_type (wpAny_newFunctionEnv B.nocell (by intro y hy; simp at hy) (fun h₁ hns₁ hsb₁ => ?_) B.kind)
  dsimp only at hns₁ hsb₁ ⊢
  generalize hH3 : s.heap.push { cls := .type "list", data := .seq ([] : List Value).toArray } = h3 at hns₁ hsb₁ I3 ⊢
  obtain ⟨s3, e3⟩ : ∃ s3 : Shared, s3 = { s with heap := h3 } := ⟨_, rfl⟩
  obtain rfl : h3 = s3.heap := by rw [e3]
  have I3 : Inv X pins σ (upd H s.heap.objs.size (.lst [])) s3 := by
    have e : s3 = { s with heap := s3.heap, toks := s.toks } := e3
    rw [e]; exact I3
  have eT : s3.toks = s.toks := by rw [e3]
  have eS : ({ s with heap := h₁, toks := s.toks + ([] : List (Str × Value)).length } : Shared) = { s3 with heap := h₁, toks := s3.toks + ([] : List (Str × Value)).length } := by rw [e3]
  rw [eS]
  have hz3 : s3.heap.objs.size = s.heap.objs.size + 1 := by rw [← hH3]; exact Heap.size_push _ _
  have old : ∀ b o, s3.heap.get? b = some o → h₁.get? b = some o := fun b o e => hsb₁.extBut b o (Nat.ne_of_lt (Heap.lt_size e)) (Heap.get?_push_of_some _ e)
  have st3 : tn 0 s3.heap := T.keep _ _ _ st fun b hb o e => by rw [← hH3]; exact Heap.get?_push_of_some _ e
  have st4 : tn 0 h₁ := T.keep _ _ _ st3 fun b _ o e => old b o e
  have I4 := I3.blk (tk := s3.toks + ([] : List (Str × Value)).length) B f3 (fun b hb => Nat.lt_of_lt_of_le (flt b hb) (by rw [hz3]; exact Nat.le_succ _)) (show h₁.Ns s3.heap.objs.size (fun _ => none) from hns₁) old
  generalize hX' : cxComp X N' scope s3.heap.objs.size s3 (upd H s.heap.objs.size (.lst [])) fp = X' at I4
  have eX : X'.prog = X.prog ∧ X'.w = X.w ∧ X'.K = X.K ∧ X'.A = X.A ∧ X'.calm = X.calm ∧ X'.env = compEnvC scope (clOf X.env scope.names []) s3.heap.objs.size X.env ∧ X'.ex = fp ∧ X'.outer = X.stack ∧ X'.s₀ = s3 ∧ X'.H₀ = upd H s.heap.objs.size (.lst []) ∧ X'.pn = [] ∧ X'.xe = (fun _ _ => False) := by
    rw [← hX']; exact ⟨rfl, rfl, rfl, rfl, rfl, rfl, rfl, rfl, rfl, rfl, rfl, rfl⟩
  have hg' : PG X' tg g := hX' ▸ hg _ _ _ _
  have hi' : PIfs X' ifs tc := hX' ▸ hi _ _ _ _
  have he' : PE X' elt te := hX' ▸ he _ _ _ _
  obtain ⟨e1, e2, e3, e4, e5, e6, e7, e8, e9, e10, e11, e12⟩ := eX
  have stat : ∀ {H' : Hp}, (∀ b ∈ fp, H' b = none) → ∀ b ∈ fp, FpOk X' [] H' b := fun {H'} hn b hb => by
    have q := I4.ok.exf b (by rw [e7]; exact hb)
    refine ⟨hn b hb, q.1, ?_, .inl (by rw [e7]; exact hb), q.2, fun p hp => ?_⟩
    · exact I4.ok.exfs b (by rw [e7]; exact hb)
    · rw [e11] at hp; simp at hp
  have loop : codeAny (model X.prog X.w) X.A (.compLoop (.ListComp elt [⟨tg, iter, ifs, 0⟩] scope pos) 0 (.ref it) (.ref s.heap.objs.size) (compEnvC scope (clOf X.env scope.names []) s3.heap.objs.size X.env))
      (RR (.ref s.heap.objs.size) s3.heap.objs.size) { s3 with heap := h₁, toks := s3.toks + ([] : List (Str × Value)).length } := by
    refine loop_go (fun n s' => ∃ i σi Hi, Inv X' [] σi Hi s' ∧ tn i s'.heap ∧ (∀ b ∈ fp, Hi b = none) ∧ W i n σi Hi) ?_ m0 ⟨0, _, _, I4, st4, hfr, w0⟩
    rintro n s5 ⟨i, σ5, H5, I5, st5, fr5, w5⟩
    rcases turn i n σ5 H5 w5 with ⟨stop, qn⟩ | ⟨go, N, hN, step⟩
    · have d := T.done X' e1 e2 e3 (by rw [e5]; exact hc) i [] s5 σ5 H5 (fun _ _ => False) I5 (stat fr5) st5 stop
      rw [e4] at d
      (refine thn d ?_; rintro r s6 ⟨hr, I6⟩)
      subst hr
      have u := I6.base
      rw [e7, e9, e10] at u
      have u : Un (frs X'.outer) fp (upd H s.heap.objs.size (.lst [])) H5 s3.heap s6.heap := u
      rw [e8] at u
      have ok6 := I6.hok
      rw [e1, e2] at ok6
      have I7 : Inv X pins σ H5 s6 := I3.call' (ch := fp) (by have := I6.os; rw [e9] at this; exact this) u ok6 I6.bare fun b hb => ⟨(f b hb).2.2.2.1, (f b hb).2.1, (f b hb).2.2.2.2.1, (f b hb).2.2.2.2.2⟩
      have hfree := I6.free
      obtain ⟨m, hm, _⟩ := I6.loc
      rw [e6] at hfree hm
      exact hRR _ H5 s6 m I7 (I3.fpOk (Nat.le_refl _) hfree) hm qn
    · have d := T.item X' e1 e2 e3 (by rw [e5]; exact hc) i [] s5 σ5 H5 (fun _ _ => False) I5 (stat fr5) st5 go
      rw [e4] at d
      (refine thn d ?_; rintro r s6 ⟨u, hr, h6⟩)
      subst hr
      (refine thn h6 ?_; rintro _ s7 ⟨x, H7, I7, r7, y7, st7, fr7⟩)
      have I7' := I7.pinned (stat fr7) (T.obj _ _ st7)
      have a := hg' _ s7 σ5 H7 x u _ I7' r7 (step x H7 y7)
      rw [e1, e2, e4, e6, e12] at a
      (refine thn a ?_; rintro _ s8 ⟨σ8, H8, I8, q8⟩)
      have t := hi' _ s8 σ8 H8 _ I8 q8
      rw [e1, e2, e4, e6, e12] at t
      have again : ∀ {σ9 : St} {H9 : Hp} {s9 : Shared}, Inv X' ([] ++ pinsAt fp s7.heap) σ9 H9 s9 → N σ9 H9 → ∃ m, m < n ∧ ∃ i σi Hi, Inv X' [] σi Hi s9 ∧ tn i s9.heap ∧ (∀ b ∈ fp, Hi b = none) ∧ W i m σi Hi := fun {σ9 H9 s9} I9 n9 => by
        obtain ⟨m', hm, w9⟩ := hN σ9 H9 n9
        refine ⟨m', hm, i + 1, σ9, H9, I9.unpinned, T.keep _ _ _ st7 fun b hb o e => (I9.pin (b, o) (List.mem_append_right _ (List.mem_append_right _ (mem_pinsAt hb e)))).1, fun b hb => ?_, w9⟩
        obtain ⟨o, e, d⟩ := T.obj _ _ st7 b hb
        exact (I9.pin (b, o) (List.mem_append_right _ (List.mem_append_right _ (mem_pinsAt hb e)))).2.1
      (refine thn t ?_; rintro ok s9 ⟨H9, I9, q9⟩)
      cases ok with
      | false =>
        rw [if_neg Bool.false_ne_true] at q9 ⊢
        exact again I9 q9
      | true =>
        rw [if_pos rfl] at q9 ⊢
        have v := he' _ s9 σ8 H9 _ I9 q9
        rw [e1, e2, e4, e6, e12] at v
        (refine thn v ?_; rintro y s10 ⟨z, H10, I10, r10, ys, hD, hz, q10⟩)
        have ap := mt_append _ s10 σ8 H10 (.ref s.heap.objs.size) [z] (.ref s.heap.objs.size) [y] (fun _ H' => N σ8 H') I10 rfl (.cons r10 .nil) ⟨_, ys, z, rfl, rfl, hD, hz, q10⟩
        rw [e1, e2, e4, e12] at ap
        (refine thn ap ?_; rintro _ s11 ⟨_, H11, I11, _, q11⟩; exact again I11 q11)
  exact codeAny_compStart_list loop (T.self _ _ _ _ _ st4 loop)

variable {elt tg iter : Expr} {ifs : List Expr} {scope : Scope} {pos : Pos} {N' : List Str} {ix : List (Option Nat)} {wi : TI} {g : TG} {tc : TT} {te : TE}
theorem pe_comp (B : BlkOk X N' ix scope) (hc : X.calm = true) (hw : PI X tg iter wi)
    (hg : ∀ C s H fp, PG (cxComp X N' scope C s H fp) tg g) (hi : ∀ C s H fp, PIfs (cxComp X N' scope C s H fp) ifs tc) (he : ∀ C s H fp, PE (cxComp X N' scope C s H fp) elt te)
    (hs : ∀ x, foldedSetIterable iter X.env x = pure x := by intro _; rfl) :
    PE X (.ListComp elt [⟨tg, iter, ifs, 0⟩] scope pos) (tComp ix wi g tc te) := by
  intro pins s σ H Q I h
  rw [eval_ListComp]
  refine wpAny_comprehension_free (use := none) rfl hs (closure_is fun y hy e => I.ok.has y.1 (B.frees y hy e)) B.kind B.names ?_
  refine thn (hw pins s σ H _ I h) fun v s1 h1 => thn h1 fun itv s2 h2 => ?_
  obtain ⟨it, fp, tn, J, H2, e, I2, T, st2, f2, q2⟩ := h2
  subst e
  refine blk_run B hg hi he hc I2 T st2 f2 (Q := Q) (q2 _ I2.fresh) fun C H' s' m I' fC hm q => ?_
  refine ⟨m, hm, fun h' sb => ⟨.ref s2.heap.objs.size, H', ?_, rfl, q⟩⟩
  exact I'.turned (t' := s'.toks) (it := C) (fun b o hb e => sb.extBut b o hb e) fC.1 fC.2.1 fC.2.2.2.1 fC.2.2.2.2.1 fC.2.2.2.2.2
/-- name = [..], the name a local of its own on that row -/
noncomputable def tAsgC (i : Nat) (t : TE) : TS := fun D σ H => t σ H fun x H1 => D.nx (σ.set i (some x)) H1
theorem ps_setC {i : Nat} {y : Str} {py spos : Pos} (B : BlkOk X N' ix scope) (hc : X.calm = true) (hN : X.N.Nodup) (hy : X.N[i]? = some y) (hl : Loc X.env.scope y) (hw : PI X tg iter wi)
    (hg : ∀ C s H fp, PG (cxComp X N' scope C s H fp) tg g) (hi : ∀ C s H fp, PIfs (cxComp X N' scope C s H fp) ifs tc) (he : ∀ C s H fp, PE (cxComp X N' scope C s H fp) elt te)
    (hsw : swapsWith (.ListComp elt [⟨tg, iter, ifs, 0⟩] scope pos) (some (.Name y py)) spos.line X.env = pure true := by rfl)
    (hf : X.fn y = true ∨ X.env.scope.names.lookup y = some .local := by first | exact .inl rfl | exact .inr rfl | assumption)
    (hs : ∀ x, foldedSetIterable iter X.env x = pure x := by intro _; rfl) :
    PS X (.Assign [.Name y py] (.ListComp elt [⟨tg, iter, ifs, 0⟩] scope pos) spos) (tAsgC i (tComp ix wi g tc te)) := by
  intro pins s σ H D I h
  rw [exec_Assign_Name_used _ _ _ _ hsw]
  refine wpAny_bind (wpAny_standAt (wpAny_bind ?_))
  show wpAny _ X.A (do let _ ← comprehension (.ListComp elt [⟨tg, iter, ifs, 0⟩] scope pos) scope X.env _ (newList []) false (eval iter X.env) (some (assign (.Name y py) X.env))) _ _ s
  refine wpAny_bind (wpAny_mono (wpAny_comprehension_free (use := some (assign (.Name y py) X.env)) (Q := fun _ s' => SP X pins D .next s') rfl hs (closure_is fun y hy e => I.ok.has y.1 (B.frees y hy e)) B.kind B.names
    (thn (hw pins s σ H _ I h) fun v s1 h1 => thn h1 fun itv s2 h2 => ?_)) (fun _ s' hq => wpAny_pure (wpAny_pure hq)) fun _ _ e => e)
  obtain ⟨it, fp, tn, J, H2, e, I2, T, st2, f2, q2⟩ := h2
  subst e
  refine blk_run B hg hi he hc I2 T st2 f2 (Q := fun x H1 => D.nx (σ.set i (some x)) H1) (q2 _ I2.fresh) fun C H' s' m I' fC hm q => ?_
  show wpAny _ _ (assign (.Name y py) X.env (.ref s2.heap.objs.size)) _ _ _
  (refine wpAny_assign_Name (store_ok2 I' hN hy hl (v := .ref s2.heap.objs.size) rfl (?_) hf); rintro s'' I'' ⟨a, hsame, ha⟩)
  have hCa : C ≠ a := by
    rcases ha with z | z
    · rw [z]; exact fC.2.1
    · intro e; exact fC.2.2.2.2.1 _ _ z e.symm
  refine ⟨m, hm.sameBut hsame hCa, fun h' sb => ⟨_, H', ?_, q⟩⟩
  exact I''.turned (t' := s''.toks) (it := C) (fun b o hb e => sb.extBut b o hb e) fC.1 fC.2.1 fC.2.2.2.1 fC.2.2.2.2.1 fC.2.2.2.2.2
end
end L2

namespace L2
open PySem PySem.Spec PyProof.Rows
section
variable {X : Cx} {pos : Pos}
/-- (a, b, ..) = a list of that length -/
noncomputable def gLst (K : PySem.W.Frag) (n : Nat) (t : TGs) : TG := fun v σ H Q => ∃ a xs, v = .ref a ∧ SqL K H a xs ∧ xs.length = n ∧ t xs σ H Q
theorem pg_list {es : List Expr} {k : Nat} {t : TGs} {n : Nat} (hc : X.calm = true) (h : PGs X es t)
    (hn : (assignEach es X.env).length = n := by rfl) (hst : (assignEach es X.env).findIdx? (·.1) = none := by rfl) : PG X (.Tuple es k pos) (gLst X.K n t) := by
  intro pins s σ H v u Q I r hw
  obtain ⟨a, xs, e1, hq, hl, hw⟩ := hw
  subst e1
  cases r
  obtain ⟨its, rv, ht, hz⟩ := I.list hq
  rw [PyProof.Rows.assign_Tuple]
  refine wpAny_bind (wpAny_standAt ?_)
  unfold unpack
  have hsz : (assignEach es X.env).length = its.toArray.size := by simp [hn, ← hl, rv.length]
  rw [hsz, hst]
  refine wpAny_bind (wpAny_holding (PySem.W.kun_itemsOf (I.ok.hd hc) ht.isList fun h' hx => ?_))
  have I1 : Inv X pins σ H { s with heap := h' } := I.kept (t' := s.toks) fun b o e => hx b o (Nat.ne_of_lt (Heap.lt_size e)) e
  exact h pins _ σ H xs _ Q I1 (by simpa using rv) hw
theorem pg_or {tg : Expr} {t t' : TG} (h : PG X tg t) (h' : PG X tg t') : PG X tg (fun v σ H Q => t v σ H Q ∨ t' v σ H Q) := by
  intro pins s σ H v u Q I r q
  rcases q with q | q
  · exact h pins s σ H v u Q I r q
  · exact h' pins s σ H v u Q I r q
/-- what a loop walks: a list or a tuple -/
noncomputable def iSeq (K : PySem.W.Frag) (tl : TE) : TI := fun σ H R => tl σ H fun x H1 => ∃ a, x = .ref a ∧ (((∃ xs, SqL K H1 a xs) ∧ R (Itl K a) H1) ∨ ((∃ xs, SqT K H1 a xs) ∧ R (Itt K a) H1))
theorem pi_seq {tg l : Expr} {tl : TE} (hl : PE X l tl) : PI X tg l (iSeq X.K tl) := by
  intro pins s σ H R I h
  (refine thn (hl pins s σ H _ I h) ?_; rintro v s1 ⟨x, H1, I1, r1, q1⟩)
  obtain ⟨a, e, ⟨⟨xs, hq⟩, q⟩ | ⟨⟨xs, hq⟩, q⟩⟩ := q1
  · subst e
    cases r1
    obtain ⟨its, rv, p, hz⟩ := I1.list hq
    refine wpAny_pyIter_list p.isList ?_
    refine ⟨s1.heap.objs.size, [s1.heap.objs.size], _, _, H1, rfl, I1.kept (t' := s1.toks) fun b o e => Heap.get?_push_of_some _ e, turn_list a _, ⟨_, Heap.get?_push_size _ rfl, rfl, rfl⟩, fun b hb => ?_, q⟩
    have e : b = s1.heap.objs.size := by simpa using hb
    subst e
    exact I1.fpOk (Nat.le_refl _) (I1.hok.fresh (Nat.le_refl _))
  · subst e
    cases r1
    obtain ⟨its, rv, p, hz⟩ := I1.tuple hq
    refine wpAny_pyIter_tuple (show s1.heap.IsTuple a its.toArray from p) ?_
    refine ⟨s1.heap.objs.size, [s1.heap.objs.size], _, _, H1, rfl, I1.kept (t' := s1.toks) fun b o e => Heap.get?_push_of_some _ e, turn_tuple a _, ⟨_, Heap.get?_push_size _ rfl, rfl, rfl⟩, fun b hb => ?_, q⟩
    have e : b = s1.heap.objs.size := by simpa using hb
    subst e
    exact I1.fpOk (Nat.le_refl _) (I1.hok.fresh (Nat.le_refl _))
/-- is True, is False: the right side a bool -/
theorem op_isB : OpR X (compareOp .Is) (fun x y H Q => ∃ b, y = .bl b ∧ Q (.bl (decide (x = .bl b))) H) := by
  intro pins s σ H x y v u Q I rx ry h
  obtain ⟨b, rfl, q⟩ := h
  cases ry
  refine wpAny_is_plain ?_ (fin_bl I q ?_)
  · cases x <;> first
      | (cases rx; rfl)
      | (obtain ⟨t, rfl⟩ := rx; rfl)
  · cases x <;> first
      | (obtain ⟨t, rfl⟩ := rx; rfl)
      | (cases rx; cases b <;> rfl)
      | (cases rx; rename_i c; cases b <;> cases c <;> rfl)
theorem op_isNotB : OpR X (compareOp .IsNot) (fun x y H Q => ∃ b, y = .bl b ∧ Q (.bl (!decide (x = .bl b))) H) := by
  intro pins s σ H x y v u Q I rx ry h
  obtain ⟨b, rfl, q⟩ := h
  cases ry
  refine wpAny_isNot_plain ?_ (fin_bl I q ?_)
  · cases x <;> first
      | (cases rx; rfl)
      | (obtain ⟨t, rfl⟩ := rx; rfl)
  · cases x <;> first
      | (obtain ⟨t, rfl⟩ := rx; rfl)
      | (cases rx; cases b <;> rfl)
      | (cases rx; rename_i c; cases b <;> cases c <;> rfl)
/-- all of a list of bools -/
theorem vals_bools : ∀ {bs : List Bool} {us : List Value}, Vals (bs.map V.bl) us → us = bs.map Value.bool
  | [], _, .nil => rfl
  | b :: bs, _, .cons r t => by cases r; rw [vals_bools t]; rfl
theorem call_all (hc : X.calm = true) : CallR X (.builtin "all") (fun xs H Q => ∃ (p : Addr) (bs : List Bool), xs = [.ref p] ∧ SqL X.K H p (bs.map V.bl) ∧ Q (.bl (bs.all id)) H) := by
  intro pins s σ H xs us Q I r h
  obtain ⟨p, bs, rfl, hq, q⟩ := h
  obtain ⟨u, rfl, rx⟩ := vals1 r
  cases rx
  obtain ⟨its, r', pl, hz⟩ := I.list hq
  have e := vals_bools r'
  subst e
  have hl := pl.isList
  have hlt : p < s.heap.objs.size := by obtain ⟨_, e, _⟩ := hl; exact Heap.lt_size e
  refine call_all_walk (wpAny_pyIter_list hl ?_)
  refine ⟨s.heap.objs.size, [s.heap.objs.size, p], [s.heap.objs.size], (bs.map Value.bool).toArray.size, _, _, fun i => (bs[i]?).getD true, rfl, Walks.list (A := X.A.in1) (I.ok.hd hc) _ p (Nat.ne_of_lt hlt) (bs.map Value.bool).toArray,
    ⟨⟨_, Heap.get?_push_size _ rfl, rfl, rfl⟩, hl.push _⟩, fun i v s' Q' E' hP hQ => ?_, fun h' tk hk => ?_⟩
  · have hP : (bs.map Value.bool)[i]? = some v := by simpa using hP
    rw [List.getElem?_map] at hP
    cases hb : bs[i]? with
    | none => rw [hb] at hP; cases hP
    | some b =>
      rw [hb] at hP; cases hP
      simp only [hb, Option.getD_some] at hQ
      exact wpAny_truthy_bool hQ
  · have e : ((List.range (bs.map Value.bool).toArray.size).all fun i => (bs[i]?).getD true) = bs.all id := by
      rw [List.size_toArray, List.length_map, Bool.eq_iff_iff, List.all_eq_true, List.all_eq_true]
      constructor
      · intro h b hb
        obtain ⟨i, hi, e⟩ := List.mem_iff_getElem.mp hb
        have := h i (List.mem_range.mpr hi)
        rw [List.getElem?_eq_getElem hi, e] at this
        exact this
      · intro h i hi
        have hi := List.mem_range.mp hi
        rw [List.getElem?_eq_getElem hi]
        exact h _ (List.getElem_mem hi)
    rw [e]
    refine ⟨.bl _, H, ?_, rfl, q⟩
    exact I.kept fun b x e => hk b x (fun hm => by rw [List.mem_singleton.mp hm] at e; exact Nat.lt_irrefl _ (Heap.lt_size e)) (Heap.get?_push_of_some _ e)
/-- isinstance(e, T), T a built-in -/
noncomputable def kindOfV (K : PySem.W.Frag) (H : Hp) : V → String → Prop
  | .non, n => n = "NoneType"
  | .bl _, n => n = "bool"
  | .int _, n => n = "int"
  | .str _, n => n = "str"
  | .ref a, n => (n = "list" ∧ ((∃ xs, H a = some (.lst xs)) ∨ ∃ o xs, H a = some (.frz o (.lst xs)))) ∨ (n = "tuple" ∧ ∃ xs, H a = some (.tup xs)) ∨ (n = "dict" ∧ ∃ xs, H a = some (.dK xs))
  | _, _ => False
noncomputable def subK (n T : String) : Bool := n == T || (n == "bool" && T == "int")
theorem kit_sub {K : PySem.W.Frag} {n T : String} (hn : n = "NoneType" ∨ n = "bool" ∨ n = "int" ∨ n = "str" ∨ n = "list" ∨ n = "tuple" ∨ n = "dict") (hT : T = "int" ∨ T = "str" ∨ T = "bool" ∨ T = "list" ∨ T = "tuple" ∨ T = "dict") : PySem.W.kitOne K (.type n) (.type T) = some (subK n T) := by
  rcases hn with rfl | rfl | rfl | rfl | rfl | rfl | rfl <;> rcases hT with rfl | rfl | rfl | rfl | rfl | rfl <;> rfl
theorem call_isinst : CallR X (.builtin "isinstance") (fun xs H Q => ∃ x n T, xs = [x, .ty T] ∧ kindOfV X.K H x n ∧ (T = "int" ∨ T = "str" ∨ T = "bool" ∨ T = "list" ∨ T = "tuple" ∨ T = "dict") ∧ Q (.bl (subK n T)) H) := by
  intro pins s σ H xs us Q I r h
  obtain ⟨x, n, T, rfl, hk, hT, q⟩ := h
  obtain ⟨u, w, rfl, rx, rt⟩ := vals2 r
  cases rt
  have fin : ∀ tk, EP X pins σ Q (.bool (subK n T)) { s with toks := tk } := fun tk => ⟨.bl (subK n T), H, I.tok tk, rfl, q⟩
  cases x with
  | non => cases (show n = "NoneType" from hk); exact isinst_ok I rx .non (kit_sub (by simp) hT) fin
  | bl b => cases (show n = "bool" from hk); exact isinst_ok I rx (.bl b) (kit_sub (by simp) hT) fin
  | int i => cases (show n = "int" from hk); exact isinst_ok I rx (.int i) (kit_sub (by simp) hT) fin
  | str i => cases (show n = "str" from hk); exact isinst_ok I rx (.str i) (kit_sub (by simp) hT) fin
  | ref a =>
    rcases (show (n = "list" ∧ ((∃ xs, H a = some (.lst xs)) ∨ ∃ o xs, H a = some (.frz o (.lst xs)))) ∨ (n = "tuple" ∧ ∃ xs, H a = some (.tup xs)) ∨ (n = "dict" ∧ ∃ xs, H a = some (.dK xs)) from hk) with ⟨e, ⟨xs, h1⟩ | ⟨o, xs, h1⟩⟩ | ⟨e, xs, h1⟩ | ⟨e, xs, h1⟩
    · cases e; exact isinst_ok I rx (.lst h1) (kit_sub (by simp) hT) fin
    · cases e; exact isinst_ok I rx (.frz h1) (kit_sub (by simp) hT) fin
    · cases e; exact isinst_ok I rx (.tup h1) (kit_sub (by simp) hT) fin
    · cases e; exact isinst_ok I rx (.dK h1) (kit_sub (by simp) hT) fin
  | _ => exact (show False from hk).elim
end
end L2

namespace L3
open PySem L2
set_option maxHeartbeats 4000000

/-! ### deep values: tuples are values, lists, dicts and instances are addresses -/
inductive D where
  | non | bl (b : Bool) | int (i : Int) | str (x : Str) | tup (xs : List D) | ref (a : Addr) | ty (n : String)
inductive DO where
  | lst (xs : List D) | fro (xs : List D) | dic (kvs : List (Key × D)) | ins (C : Addr) (fs : List (Str × D))
noncomputable abbrev Gp := Addr → Option DO
noncomputable def gup (G : Gp) (a : Addr) (o : DO) : Gp := fun b => if b = a then some o else G b
theorem gup_same {G : Gp} {a : Addr} {o : DO} : gup G a o a = some o := by unfold gup; rw [if_pos rfl]
theorem gup_ne {G : Gp} {a b : Addr} {o : DO} (h : b ≠ a) : gup G a o b = G b := by unfold gup; rw [if_neg h]
theorem gup_gup {G : Gp} {a : Addr} {o u : DO} : gup (gup G a o) a u = gup G a u := by
  funext b; unfold gup; split <;> rfl
theorem gne {G : Gp} {a b : Addr} {o : DO} (h : G a = some o) (h' : G b = none) : a ≠ b := by
  intro e; subst e; rw [h] at h'; cases h'
theorem gne' {G : Gp} {a b : Addr} {o : DO} (h' : G b = none) (h : G a = some o) : b ≠ a := Ne.symm (gne h h')

structure Le (H H' : Hp) : Prop where
  tups : ∀ b xs, H b = some (.tup xs) → H' b = some (.tup xs)
  frzs : ∀ b o u, H b = some (.frz o u) → H' b = some (.frz o u)
theorem Le.refl (H : Hp) : Le H H := ⟨fun _ _ h => h, fun _ _ _ h => h⟩
theorem Le.trans {H H1 H2 : Hp} (a : Le H H1) (b : Le H1 H2) : Le H H2 := ⟨fun c xs h => b.tups c xs (a.tups c xs h), fun c o u h => b.frzs c o u (a.frzs c o u h)⟩
theorem Le.sqT {K : PySem.W.Frag} {H H' : Hp} (l : Le H H') {a : Addr} {xs : List V} (h : SqT K H a xs) : SqT K H' a xs := by
  rcases h with (h | ⟨o, h⟩) | h
  · exact .inl (.inl (l.tups _ _ h))
  · exact .inl (.inr ⟨o, l.frzs _ _ _ h⟩)
  · exact .inr h
theorem Le.fresh {H : Hp} {p : Addr} {o : HO} (h : H p = none) : Le H (upd H p o) :=
  ⟨fun b xs q => by rw [upd_ne (ne_of_none q h)]; exact q, fun b o u q => by rw [upd_ne (ne_of_none q h)]; exact q⟩

mutual
noncomputable def RelD (K : PySem.W.Frag) (H : Hp) : D → V → Prop
  | .non, v => v = .non
  | .bl b, v => v = .bl b
  | .int i, v => v = .int i
  | .str x, v => v = .str x
  | .ref a, v => v = .ref a
  | .ty n, v => v = .ty n
  | .tup ds, v => ∃ a xs, v = .ref a ∧ SqT K H a xs ∧ RelDs K H ds xs
noncomputable def RelDs (K : PySem.W.Frag) (H : Hp) : List D → List V → Prop
  | [], xs => xs = []
  | d :: ds, xs => ∃ x r, xs = x :: r ∧ RelD K H d x ∧ RelDs K H ds r
end

section
variable {K : PySem.W.Frag} {H H' : Hp}
mutual
theorem RelD.le (l : Le H H') : ∀ {d : D} {v : V}, RelD K H d v → RelD K H' d v
  | .non, _, h => by simpa [RelD] using h
  | .bl _, _, h => by simpa [RelD] using h
  | .int _, _, h => by simpa [RelD] using h
  | .str _, _, h => by simpa [RelD] using h
  | .ref _, _, h => by simpa [RelD] using h
  | .ty _, _, h => by simpa [RelD] using h
  | .tup ds, _, h => by
    rw [RelD] at h ⊢
    obtain ⟨a, xs, e, s, r⟩ := h
    exact ⟨a, xs, e, l.sqT s, RelDs.le l r⟩
theorem RelDs.le (l : Le H H') : ∀ {ds : List D} {xs : List V}, RelDs K H ds xs → RelDs K H' ds xs
  | [], _, h => by simpa [RelDs] using h
  | d :: ds, _, h => by
    rw [RelDs] at h ⊢
    obtain ⟨x, r, e, h1, h2⟩ := h
    exact ⟨x, r, e, RelD.le l h1, RelDs.le l h2⟩
end
theorem RelDs.nil : RelDs K H [] [] := by rw [RelDs]
theorem RelDs.cons {d : D} {ds : List D} {x : V} {xs : List V} (h : RelD K H d x) (t : RelDs K H ds xs) : RelDs K H (d :: ds) (x :: xs) := by
  rw [RelDs]; exact ⟨x, xs, rfl, h, t⟩
theorem RelDs.inv_nil {xs : List V} (h : RelDs K H [] xs) : xs = [] := by rw [RelDs] at h; exact h
theorem RelDs.inv_cons {d : D} {ds : List D} {xs : List V} (h : RelDs K H (d :: ds) xs) : ∃ x r, xs = x :: r ∧ RelD K H d x ∧ RelDs K H ds r := by rw [RelDs] at h; exact h
theorem RelDs.length : ∀ {ds : List D} {xs : List V}, RelDs K H ds xs → ds.length = xs.length
  | [], _, h => by rw [h.inv_nil]; rfl
  | _ :: _, _, h => by obtain ⟨x, r, e, _, t⟩ := h.inv_cons; rw [e, List.length_cons, List.length_cons, t.length]
theorem RelDs.get : ∀ {ds : List D} {xs : List V} {i : Nat} {d : D}, RelDs K H ds xs → ds[i]? = some d → ∃ x, xs[i]? = some x ∧ RelD K H d x
  | [], _, _, _, _, e => by simp at e
  | _ :: _, _, 0, _, h, e => by
    obtain ⟨x, r, rfl, h1, t⟩ := h.inv_cons
    simp at e; subst e; exact ⟨x, rfl, h1⟩
  | _ :: _, _, i + 1, d, h, e => by
    obtain ⟨x, r, rfl, h1, t⟩ := h.inv_cons
    obtain ⟨y, h2, h3⟩ := RelDs.get (i := i) t (by simpa using e)
    exact ⟨y, by simpa using h2, h3⟩
theorem RelDs.of : ∀ {ds : List D} {xs : List V}, ds.length = xs.length → (∀ (i : Nat) d x, ds[i]? = some d → xs[i]? = some x → RelD K H d x) → RelDs K H ds xs
  | [], [], _, _ => .nil
  | [], _ :: _, h, _ => by simp at h
  | _ :: _, [], h, _ => by simp at h
  | d :: ds, x :: xs, h, f => .cons (f 0 d x rfl rfl) (RelDs.of (by simpa using h) fun i d x a b => f (i + 1) d x (by simpa using a) (by simpa using b))
theorem RelDs.append : ∀ {ds es : List D} {xs ys : List V}, RelDs K H ds xs → RelDs K H es ys → RelDs K H (ds ++ es) (xs ++ ys)
  | [], _, _, _, h, t => by rw [h.inv_nil]; exact t
  | _ :: _, _, _, _, h, t => by
    obtain ⟨x, r, rfl, h1, h2⟩ := h.inv_cons
    exact .cons h1 (h2.append t)
theorem RelDs.set {d : D} {x : V} (q : RelD K H d x) : ∀ {ds : List D} {xs : List V} (i : Nat), RelDs K H ds xs → RelDs K H (ds.set i d) (xs.set i x)
  | [], _, _, h => by rw [h.inv_nil]; exact .nil
  | _ :: _, _, 0, h => by
    obtain ⟨x, r, rfl, h1, h2⟩ := h.inv_cons
    exact .cons q h2
  | _ :: _, _, i + 1, h => by
    obtain ⟨x, r, rfl, h1, h2⟩ := h.inv_cons
    exact .cons h1 (h2.set q i)
theorem RelDs.take : ∀ {ds : List D} {xs : List V} (n : Nat), RelDs K H ds xs → RelDs K H (ds.take n) (xs.take n)
  | _, _, 0, _ => by simpa using RelDs.nil
  | [], _, _ + 1, h => by rw [h.inv_nil]; exact .nil
  | _ :: _, _, n + 1, h => by
    obtain ⟨x, r, rfl, h1, h2⟩ := h.inv_cons
    exact .cons h1 (h2.take n)
theorem RelDs.drop : ∀ {ds : List D} {xs : List V} (n : Nat), RelDs K H ds xs → RelDs K H (ds.drop n) (xs.drop n)
  | _, _, 0, h => by simpa using h
  | [], _, _ + 1, h => by rw [h.inv_nil]; exact .nil
  | _ :: _, _, n + 1, h => by
    obtain ⟨x, r, rfl, h1, h2⟩ := h.inv_cons
    exact h2.drop n
theorem RelDs.reverse : ∀ {ds : List D} {xs : List V}, RelDs K H ds xs → RelDs K H ds.reverse xs.reverse
  | [], _, h => by rw [h.inv_nil]; exact .nil
  | _ :: _, _, h => by
    obtain ⟨x, r, rfl, h1, h2⟩ := h.inv_cons
    rw [List.reverse_cons, List.reverse_cons]
    exact h2.reverse.append (.cons h1 .nil)
theorem RelDs.rep {ds : List D} {xs : List V} (h : RelDs K H ds xs) : ∀ k : Nat, RelDs K H (List.replicate k ds).flatten (List.replicate k xs).flatten
  | 0 => .nil
  | k + 1 => by rw [List.replicate_succ, List.replicate_succ, List.flatten_cons, List.flatten_cons]; exact h.append (h.rep k)

noncomputable def RelPs {κ : Type} (K : PySem.W.Frag) (H : Hp) (ps : List (κ × D)) (qs : List (κ × V)) : Prop := ps.map (·.1) = qs.map (·.1) ∧ RelDs K H (ps.map (·.2)) (qs.map (·.2))
theorem RelPs.le {κ : Type} (l : Le H H') {ps : List (κ × D)} {qs : List (κ × V)} (h : RelPs K H ps qs) : RelPs K H' ps qs := ⟨h.1, RelDs.le l h.2⟩
end

noncomputable def ObjD (K : PySem.W.Frag) (H : Hp) (a : Addr) : DO → Prop
  | .lst ds => ∃ xs, H a = some (.lst xs) ∧ RelDs K H ds xs
  | .fro ds => ∃ o xs, H a = some (.frz o (.lst xs)) ∧ RelDs K H ds xs
  | .dic kvs => ∃ ys, H a = some (.dK ys) ∧ RelPs K H kvs ys
  | .ins C fs => ∃ dx ys, H a = some (.ins C dx ys) ∧ RelPs K H fs ys
noncomputable def Con (K : PySem.W.Frag) (G : Gp) (H : Hp) : Prop := ∀ a o, G a = some o → ObjD K H a o
section
variable {K : PySem.W.Frag} {G : Gp} {H H' : Hp} {a p : Addr} {o : DO}
theorem ObjD.some (h : ObjD K H a o) : ∃ u, H a = some u := by
  cases o with
  | lst ds => obtain ⟨xs, e, _⟩ := h; exact ⟨_, e⟩
  | fro ds => obtain ⟨_, xs, e, _⟩ := h; exact ⟨_, e⟩
  | dic ds => obtain ⟨xs, e, _⟩ := h; exact ⟨_, e⟩
  | ins C ds => obtain ⟨_, xs, e, _⟩ := h; exact ⟨_, e⟩
theorem ObjD.stay (h : ObjD K H a o) (l : Le H H') (e : H' a = H a) : ObjD K H' a o := by
  cases o with
  | lst ds => obtain ⟨xs, q, r⟩ := h; exact ⟨xs, e.trans q, RelDs.le l r⟩
  | fro ds => obtain ⟨o, xs, q, r⟩ := h; exact ⟨o, xs, e.trans q, RelDs.le l r⟩
  | dic ds => obtain ⟨xs, q, r⟩ := h; exact ⟨xs, e.trans q, r.le l⟩
  | ins C ds => obtain ⟨dx, xs, q, r⟩ := h; exact ⟨dx, xs, e.trans q, r.le l⟩
theorem Con.fresh (c : Con K G H) (h : H p = none) : G p = none := by
  cases e : G p with
  | none => rfl
  | some o => obtain ⟨u, q⟩ := (c p o e).some; rw [h] at q; cases q
theorem Con.stay (c : Con K G H) (l : Le H H') (e : ∀ a o, G a = some o → H' a = H a) : Con K G H' := fun a o q => (c a o q).stay l (e a o q)
/-- a new object that G does not see -/
theorem Con.side {u : HO} (c : Con K G H) (h : H p = none) : Con K G (upd H p u) := c.stay (Le.fresh h) fun a o q => by
  obtain ⟨u, e⟩ := (c a o q).some
  exact upd_ne (ne_of_none e h)
/-- an object is laid or written -/
theorem Con.put {u : HO} (c : Con K G H) (l : Le H (upd H p u)) (n : ObjD K (upd H p u) p o) : Con K (gup G p o) (upd H p u) := fun b q e => by
  by_cases hb : b = p
  · subst hb; rw [gup_same] at e; cases e; exact n
  · rw [gup_ne hb] at e
    exact (c b q e).stay l (upd_ne hb)
theorem Le.lst {xs ys : List V} (h : H p = some (.lst xs)) : Le H (upd H p (.lst ys)) :=
  ⟨fun b zs q => by by_cases e : b = p
                    · subst e; rw [h] at q; cases q
                    · rw [upd_ne e]; exact q,
   fun b o u q => by by_cases e : b = p
                     · subst e; rw [h] at q; cases q
                     · rw [upd_ne e]; exact q⟩
theorem Le.dK {xs ys : List (Key × V)} (h : H p = some (.dK xs)) : Le H (upd H p (.dK ys)) :=
  ⟨fun b zs q => by by_cases e : b = p
                    · subst e; rw [h] at q; cases q
                    · rw [upd_ne e]; exact q,
   fun b o u q => by by_cases e : b = p
                     · subst e; rw [h] at q; cases q
                     · rw [upd_ne e]; exact q⟩
theorem Le.ins {C dx C' dx' : Addr} {xs ys : List (Str × V)} (h : H p = some (.ins C dx xs)) : Le H (upd H p (.ins C' dx' ys)) :=
  ⟨fun b zs q => by by_cases e : b = p
                    · subst e; rw [h] at q; cases q
                    · rw [upd_ne e]; exact q,
   fun b o u q => by by_cases e : b = p
                     · subst e; rw [h] at q; cases q
                     · rw [upd_ne e]; exact q⟩
theorem Con.lstNew {ds : List D} {xs : List V} (c : Con K G H) (h : H p = none) (r : RelDs K H ds xs) : Con K (gup G p (.lst ds)) (upd H p (.lst xs)) :=
  c.put (Le.fresh h) ⟨xs, upd_same, RelDs.le (Le.fresh h) r⟩
theorem Con.lstSet {ds : List D} {xs ys : List V} (c : Con K G H) (h : H p = some (.lst ys)) (r : RelDs K H ds xs) : Con K (gup G p (.lst ds)) (upd H p (.lst xs)) :=
  c.put (Le.lst h) ⟨xs, upd_same, RelDs.le (Le.lst h) r⟩
end

noncomputable abbrev DSt := List (Option D)
noncomputable def RelSt (K : PySem.W.Frag) (H : Hp) (σd : DSt) (σ : St) : Prop := σd.length = σ.length ∧ ∀ (i : Nat) d, σd[i]? = some (some d) → ∃ v, σ[i]? = some (some v) ∧ RelD K H d v
theorem RelSt.le {K : PySem.W.Frag} {H H' : Hp} {σd : DSt} {σ : St} (h : RelSt K H σd σ) (l : Le H H') : RelSt K H' σd σ :=
  ⟨h.1, fun i d e => let ⟨v, a, b⟩ := h.2 i d e; ⟨v, a, RelD.le l b⟩⟩
theorem RelSt.set {K : PySem.W.Frag} {H : Hp} {σd : DSt} {σ : St} {d : D} {v : V} (h : RelSt K H σd σ) (i : Nat) (r : RelD K H d v) : RelSt K H (σd.set i (some d)) (σ.set i (some v)) := by
  refine ⟨by rw [List.length_set, List.length_set]; exact h.1, fun j e q => ?_⟩
  rw [List.getElem?_set] at q
  split at q
  · rename_i hij; subst hij
    split at q
    · rename_i hl; cases q
      exact ⟨v, by rw [List.getElem?_set_self (by rw [← h.1]; exact hl)], r⟩
    · cases q
  · rename_i hij
    obtain ⟨w, a, b⟩ := h.2 j e q
    exact ⟨w, by rw [List.getElem?_set_ne hij]; exact a, b⟩

noncomputable abbrev DK := D → Gp → Prop
noncomputable abbrev TE3 := DSt → Gp → DK → Prop
noncomputable abbrev TT3 := DSt → Gp → (Bool → Gp → Prop) → Prop
noncomputable abbrev TA3 := DSt → Gp → (List D → Gp → Prop) → Prop
structure Ends3 where
  nx : DSt → Gp → Prop
  rt : DK
  bk : DSt → Gp → Prop := fun _ _ => False
  ct : DSt → Gp → Prop := fun _ _ => False
noncomputable abbrev TS3 := Ends3 → DSt → Gp → Prop

noncomputable def FutE (K : PySem.W.Frag) (H : Hp) (q : DK) (Q : VK) : Prop := ∀ d G' v H', RelD K H' d v → Con K G' H' → Le H H' → q d G' → Q v H'
noncomputable def FutT (K : PySem.W.Frag) (H : Hp) (q : Bool → Gp → Prop) (Q : Bool → Hp → Prop) : Prop := ∀ b G' H', Con K G' H' → Le H H' → q b G' → Q b H'
noncomputable def FutA (K : PySem.W.Frag) (H : Hp) (q : List D → Gp → Prop) (Q : List V → Hp → Prop) : Prop := ∀ ds G' vs H', RelDs K H' ds vs → Con K G' H' → Le H H' → q ds G' → Q vs H'
noncomputable def FutS (K : PySem.W.Frag) (H : Hp) (q : DSt → Gp → Prop) (Q : St → Hp → Prop) : Prop := ∀ σd G' σ H', RelSt K H' σd σ → Con K G' H' → Le H H' → q σd G' → Q σ H'
theorem FutE.le {K : PySem.W.Frag} {H H1 : Hp} {q : DK} {Q : VK} (f : FutE K H q Q) (l : Le H H1) : FutE K H1 q Q := fun d G v H' r c l' => f d G v H' r c (l.trans l')
theorem FutS.le {K : PySem.W.Frag} {H H1 : Hp} {q : DSt → Gp → Prop} {Q : St → Hp → Prop} (f : FutS K H q Q) (l : Le H H1) : FutS K H1 q Q := fun d G v H' r c l' => f d G v H' r c (l.trans l')
structure FutD (K : PySem.W.Frag) (H : Hp) (d : Ends3) (D : Ends) : Prop where
  nx : FutS K H d.nx D.nx
  rt : FutE K H d.rt D.rt
  bk : FutS K H d.bk D.bk
  ct : FutS K H d.ct D.ct
theorem FutD.le {K : PySem.W.Frag} {H H1 : Hp} {d : Ends3} {D : Ends} (f : FutD K H d D) (l : Le H H1) : FutD K H1 d D := ⟨f.nx.le l, f.rt.le l, f.bk.le l, f.ct.le l⟩

noncomputable def lowE (K : PySem.W.Frag) (t : TE3) : TE := fun σ H Q => ∃ σd G q, RelSt K H σd σ ∧ Con K G H ∧ t σd G q ∧ FutE K H q Q
noncomputable def lowT (K : PySem.W.Frag) (t : TT3) : TT := fun σ H Q => ∃ σd G q, RelSt K H σd σ ∧ Con K G H ∧ t σd G q ∧ FutT K H q Q
noncomputable def lowA (K : PySem.W.Frag) (t : TA3) : TA := fun σ H Q => ∃ σd G q, RelSt K H σd σ ∧ Con K G H ∧ t σd G q ∧ FutA K H q Q
noncomputable def lowS (K : PySem.W.Frag) (t : TS3) : TS := fun D σ H => ∃ σd G d, RelSt K H σd σ ∧ Con K G H ∧ t d σd G ∧ FutD K H d D
noncomputable abbrev R3 := D → D → Gp → DK → Prop
noncomputable def lowR (K : PySem.W.Frag) (r : R3) : R2 := fun x y H Q => ∃ d e G q, RelD K H d x ∧ RelD K H e y ∧ Con K G H ∧ r d e G q ∧ FutE K H q Q
noncomputable abbrev U3 := D → Gp → DK → Prop
noncomputable def lowU (K : PySem.W.Frag) (r : U3) : V → Hp → VK → Prop := fun x H Q => ∃ d G q, RelD K H d x ∧ Con K G H ∧ r d G q ∧ FutE K H q Q
noncomputable abbrev C3 := List D → Gp → DK → Prop
noncomputable def lowC (K : PySem.W.Frag) (r : C3) : List V → Hp → VK → Prop := fun xs H Q => ∃ ds G q, RelDs K H ds xs ∧ Con K G H ∧ r ds G q ∧ FutE K H q Q

/-! ### expressions -/
noncomputable def dVar (i : Nat) : TE3 := fun σ G q => match σ[i]? with | some (some d) => q d G | _ => False
noncomputable def dC (d : D) : TE3 := fun _ G q => q d G
noncomputable def dOp (r : R3) (ta tb : TE3) : TE3 := fun σ G q => ta σ G fun x G1 => tb σ G1 fun y G2 => r x y G2 q
noncomputable def dUn (r : U3) (ta : TE3) : TE3 := fun σ G q => ta σ G fun x G1 => r x G1 q
noncomputable def dNil : TA3 := fun _ G q => q [] G
noncomputable def dCons (ta : TE3) (tr : TA3) : TA3 := fun σ G q => ta σ G fun x G1 => tr σ G1 fun xs G2 => q (x :: xs) G2
noncomputable def dTup (t : TA3) : TE3 := fun σ G q => t σ G fun xs G1 => xs.length ≤ sizeLine ∧ q (.tup xs) G1
noncomputable def dLst (t : TA3) : TE3 := fun σ G q => t σ G fun xs G1 => xs.length ≤ sizeLine ∧ ∀ p, G1 p = none → q (.ref p) (gup G1 p (.lst xs))
noncomputable def dB (t : TE3) : TT3 := fun σ G q => t σ G fun x G1 => match x with | .bl c => q c G1 | _ => False
noncomputable def dAnd (t u : TT3) : TT3 := fun σ G q => t σ G fun c G1 => if c = true then u σ G1 q else q false G1
noncomputable def dOr (t u : TT3) : TT3 := fun σ G q => t σ G fun c G1 => if c = true then q true G1 else u σ G1 q
noncomputable def dNot (t : TT3) : TT3 := fun σ G q => t σ G fun c G1 => q (!c) G1
noncomputable def dAndV (ta tb : TE3) : TE3 := fun σ G q => ta σ G fun x G1 => match x with | .bl c => if c = true then tb σ G1 q else q (.bl false) G1 | _ => False
noncomputable def dOrV (ta tb : TE3) : TE3 := fun σ G q => ta σ G fun x G1 => match x with | .bl c => if c = true then q (.bl true) G1 else tb σ G1 q | _ => False
noncomputable def dNotV (ta : TE3) : TE3 := fun σ G q => ta σ G fun x G1 => match x with | .bl c => q (.bl (!c)) G1 | _ => False
noncomputable def dIf (t : TT3) (ta tb : TE3) : TE3 := fun σ G q => t σ G fun c G1 => if c = true then ta σ G1 q else tb σ G1 q

section
variable {K : PySem.W.Frag} {σ : St} {H : Hp} {Q : VK}
theorem low_var {i : Nat} (h : lowE K (dVar i) σ H Q) : tVar i σ H Q := by
  obtain ⟨σd, G, q, rs, c, t, f⟩ := h
  unfold dVar at t
  split at t
  · rename_i d e
    obtain ⟨v, hv, r⟩ := rs.2 i d e
    exact ⟨v, hv, f d G v H r c (Le.refl H) t⟩
  · exact t.elim
theorem low_c {d : D} {v : V} (r : ∀ H, RelD K H d v) (h : lowE K (dC d) σ H Q) : tC v σ H Q := by
  obtain ⟨σd, G, q, rs, c, t, f⟩ := h
  exact f d G v H (r H) c (Le.refl H) t
theorem low_op {r : R3} {ta tb : TE3} (h : lowE K (dOp r ta tb) σ H Q) : tOp (lowR K r) (lowE K ta) (lowE K tb) σ H Q := by
  obtain ⟨σd, G, q, rs, c, t, f⟩ := h
  exact ⟨σd, G, _, rs, c, t, fun d G1 v H1 r1 c1 l1 t1 => ⟨σd, G1, _, rs.le l1, c1, t1, fun e G2 u H2 r2 c2 l2 t2 => ⟨d, e, G2, q, RelD.le l2 r1, r2, c2, t2, f.le (l1.trans l2)⟩⟩⟩
theorem low_un {r : U3} {ta : TE3} (h : lowE K (dUn r ta) σ H Q) : tUn (lowU K r) (lowE K ta) σ H Q := by
  obtain ⟨σd, G, q, rs, c, t, f⟩ := h
  exact ⟨σd, G, _, rs, c, t, fun d G1 v H1 r1 c1 l1 t1 => ⟨d, G1, q, r1, c1, t1, f.le l1⟩⟩
theorem low_nil {Q : List V → Hp → Prop} (h : lowA K dNil σ H Q) : tNil σ H Q := by
  obtain ⟨σd, G, q, rs, c, t, f⟩ := h
  exact f [] G [] H .nil c (Le.refl H) t
theorem low_cons {ta : TE3} {tr : TA3} {Q : List V → Hp → Prop} (h : lowA K (dCons ta tr) σ H Q) : tCons (lowE K ta) (lowA K tr) σ H Q := by
  obtain ⟨σd, G, q, rs, c, t, f⟩ := h
  exact ⟨σd, G, _, rs, c, t, fun d G1 v H1 r1 c1 l1 t1 => ⟨σd, G1, _, rs.le l1, c1, t1, fun ds G2 vs H2 r2 c2 l2 t2 => f (d :: ds) G2 (v :: vs) H2 (.cons (RelD.le l2 r1) r2) c2 (l1.trans l2) t2⟩⟩
theorem low_tup {ta : TA3} (h : lowE K (dTup ta) σ H Q) : tTup (lowA K ta) σ H Q := by
  obtain ⟨σd, G, q, rs, c, t, f⟩ := h
  refine ⟨σd, G, _, rs, c, t, fun ds G1 vs H1 r1 c1 l1 t1 => ⟨by rw [← r1.length]; exact t1.1, fun p hp => ?_⟩⟩
  refine f (.tup ds) G1 (.ref p) _ ?_ (c1.side hp) (l1.trans (Le.fresh hp)) t1.2
  rw [RelD]
  exact ⟨p, vs, rfl, SqT.of upd_same, RelDs.le (Le.fresh hp) r1⟩
theorem low_lst {ta : TA3} (h : lowE K (dLst ta) σ H Q) : tLst (lowA K ta) σ H Q := by
  obtain ⟨σd, G, q, rs, c, t, f⟩ := h
  refine ⟨σd, G, _, rs, c, t, fun ds G1 vs H1 r1 c1 l1 t1 => ⟨by rw [← r1.length]; exact t1.1, fun p hp => ?_⟩⟩
  exact f (.ref p) _ (.ref p) _ (by rw [RelD]) (c1.lstNew hp r1) (l1.trans (Le.fresh hp)) (t1.2 p (c1.fresh hp))
theorem RelD.bl_inv {c : Bool} {v : V} (h : RelD K H (.bl c) v) : v = .bl c := by rw [RelD] at h; exact h
theorem low_andT {t u : TT3} {Q : Bool → Hp → Prop} (h : lowT K (dAnd t u) σ H Q) : tAnd (lowT K t) (lowT K u) σ H Q := by
  obtain ⟨σd, G, q, rs, c, t, f⟩ := h
  refine ⟨σd, G, _, rs, c, t, fun b G1 H1 c1 l1 t1 => ?_⟩
  cases b with
  | true => rw [if_pos rfl] at t1 ⊢; exact ⟨σd, G1, q, rs.le l1, c1, t1, fun b G2 H2 c2 l2 t2 => f b G2 H2 c2 (l1.trans l2) t2⟩
  | false => rw [if_neg Bool.false_ne_true] at t1 ⊢; exact f _ _ _ c1 l1 t1
theorem low_orT {t u : TT3} {Q : Bool → Hp → Prop} (h : lowT K (dOr t u) σ H Q) : tOr (lowT K t) (lowT K u) σ H Q := by
  obtain ⟨σd, G, q, rs, c, t, f⟩ := h
  refine ⟨σd, G, _, rs, c, t, fun b G1 H1 c1 l1 t1 => ?_⟩
  cases b with
  | false => rw [if_neg Bool.false_ne_true] at t1 ⊢; exact ⟨σd, G1, q, rs.le l1, c1, t1, fun b G2 H2 c2 l2 t2 => f b G2 H2 c2 (l1.trans l2) t2⟩
  | true => rw [if_pos rfl] at t1 ⊢; exact f _ _ _ c1 l1 t1
theorem low_notT {t : TT3} {Q : Bool → Hp → Prop} (h : lowT K (dNot t) σ H Q) : tNot (lowT K t) σ H Q := by
  obtain ⟨σd, G, q, rs, c, t, f⟩ := h
  exact ⟨σd, G, _, rs, c, t, fun b G1 H1 c1 l1 t1 => f _ _ _ c1 l1 t1⟩
theorem low_if {t : TT3} {ta tb : TE3} (h : lowE K (dIf t ta tb) σ H Q) : tIf (lowT K t) (lowE K ta) (lowE K tb) σ H Q := by
  obtain ⟨σd, G, q, rs, c, t, f⟩ := h
  refine ⟨σd, G, _, rs, c, t, fun b G1 H1 c1 l1 t1 => ?_⟩
  cases b with
  | true => rw [if_pos rfl] at t1 ⊢; exact ⟨σd, G1, q, rs.le l1, c1, t1, f.le l1⟩
  | false => rw [if_neg Bool.false_ne_true] at t1 ⊢; exact ⟨σd, G1, q, rs.le l1, c1, t1, f.le l1⟩
end
end L3
namespace L3
open PySem L2
set_option maxHeartbeats 4000000
/-! ### statements -/
noncomputable def dNext : TS3 := fun E σ G => E.nx σ G
/-- a reading stops here -/
noncomputable def Go (k : DSt → Gp → Prop) (σ : DSt) (G : Gp) : Prop := k σ G
noncomputable def dSeq (t u : TS3) : TS3 := fun E σ G => t { E with nx := Go (u E) } σ G
noncomputable def dDrop (te : TE3) : TS3 := fun E σ G => te σ G fun _ G1 => E.nx σ G1
noncomputable def dRet (te : TE3) : TS3 := fun E σ G => te σ G E.rt
noncomputable def dRetN : TS3 := fun E _ G => E.rt .non G
noncomputable def dIfS (c : TT3) (t u : TS3) : TS3 := fun E σ G => c σ G fun b G1 => if b = true then t E σ G1 else u E σ G1
noncomputable abbrev TG3 := D → DSt → Gp → (DSt → Gp → Prop) → Prop
noncomputable abbrev TGs3 := List D → DSt → Gp → (DSt → Gp → Prop) → Prop
noncomputable def lowG (K : PySem.W.Frag) (t : TG3) : TG := fun v σ H Q => ∃ d σd G q, RelD K H d v ∧ RelSt K H σd σ ∧ Con K G H ∧ t d σd G q ∧ FutS K H q Q
noncomputable def lowGs (K : PySem.W.Frag) (t : TGs3) : TGs := fun vs σ H Q => ∃ ds σd G q, RelDs K H ds vs ∧ RelSt K H σd σ ∧ Con K G H ∧ t ds σd G q ∧ FutS K H q Q
noncomputable def jName (i : Nat) : TG3 := fun d σ G q => q (σ.set i (some d)) G
noncomputable def jNil : TGs3 := fun ds σ G q => ds = [] ∧ q σ G
noncomputable def jCons (t : TG3) (u : TGs3) : TGs3 := fun ds σ G q => match ds with | d :: r => t d σ G fun σ' G' => u r σ' G' q | [] => False
noncomputable abbrev TSet3 := D → D → D → Gp → (Gp → Prop) → Prop
noncomputable def lowSet (K : PySem.W.Frag) (t : TSet3) : TSet := fun o i v H Q => ∃ d e x G q, RelD K H d o ∧ RelD K H e i ∧ RelD K H x v ∧ Con K G H ∧ t d e x G q ∧ ∀ G' H', Con K G' H' → Le H H' → q G' → Q H'
noncomputable def jSub (to ti : TE3) (t : TSet3) : TG3 := fun d σ G q => to σ G fun o G1 => ti σ G1 fun i G2 => t o i d G2 fun G3 => q σ G3
noncomputable def dAsg (te : TE3) (g : TG3) : TS3 := fun E σ G => te σ G fun x G1 => g x σ G1 E.nx

section
variable {K : PySem.W.Frag} {σ : St} {H : Hp} {E : Ends}
theorem low_next (h : lowS K dNext E σ H) : tNext E σ H := by
  obtain ⟨σd, G, d, rs, c, t, f⟩ := h
  exact f.nx _ _ _ _ rs c (Le.refl H) t
theorem low_seq {t u : TS3} (h : lowS K (dSeq t u) E σ H) : tSeq (lowS K t) (lowS K u) E σ H := by
  obtain ⟨σd, G, d, rs, c, t, f⟩ := h
  exact ⟨σd, G, _, rs, c, t, fun σd' G' σ' H' rs' c' l' t' => ⟨σd', G', d, rs', c', t', f.le l'⟩, f.rt, f.bk, f.ct⟩
theorem low_drop {te : TE3} (h : lowS K (dDrop te) E σ H) : tDrop (lowE K te) E σ H := by
  obtain ⟨σd, G, d, rs, c, t, f⟩ := h
  exact ⟨σd, G, _, rs, c, t, fun x G1 v H1 r1 c1 l1 t1 => f.nx _ _ _ _ (rs.le l1) c1 l1 t1⟩
theorem low_ret {te : TE3} (h : lowS K (dRet te) E σ H) : tRet (lowE K te) E σ H := by
  obtain ⟨σd, G, d, rs, c, t, f⟩ := h
  exact ⟨σd, G, _, rs, c, t, f.rt⟩
theorem low_retN (h : lowS K dRetN E σ H) : tRetN E σ H := by
  obtain ⟨σd, G, d, rs, c, t, f⟩ := h
  exact f.rt .non _ .non _ (by rw [RelD]) c (Le.refl H) t
theorem low_ifS {tc : TT3} {t u : TS3} (h : lowS K (dIfS tc t u) E σ H) : tIfS (lowT K tc) (lowS K t) (lowS K u) E σ H := by
  obtain ⟨σd, G, d, rs, c, t, f⟩ := h
  refine ⟨σd, G, _, rs, c, t, fun b G1 H1 c1 l1 t1 => ?_⟩
  cases b with
  | true => rw [if_pos rfl] at t1 ⊢; exact ⟨σd, G1, d, rs.le l1, c1, t1, f.le l1⟩
  | false => rw [if_neg Bool.false_ne_true] at t1 ⊢; exact ⟨σd, G1, d, rs.le l1, c1, t1, f.le l1⟩
theorem low_jName {i : Nat} {v : V} {Q : St → Hp → Prop} (h : lowG K (jName i) v σ H Q) : gName i v σ H Q := by
  obtain ⟨d, σd, G, q, r, rs, c, t, f⟩ := h
  exact f _ _ _ _ (rs.set i r) c (Le.refl H) t
theorem low_jNil {vs : List V} {Q : St → Hp → Prop} (h : lowGs K jNil vs σ H Q) : gNil vs σ H Q := by
  obtain ⟨ds, σd, G, q, r, rs, c, ⟨e, t⟩, f⟩ := h
  subst e
  exact ⟨r.inv_nil, f _ _ _ _ rs c (Le.refl H) t⟩
theorem low_jCons {t : TG3} {u : TGs3} {vs : List V} {Q : St → Hp → Prop} (h : lowGs K (jCons t u) vs σ H Q) : gCons (lowG K t) (lowGs K u) vs σ H Q := by
  obtain ⟨ds, σd, G, q, r, rs, c, t, f⟩ := h
  cases ds with
  | nil => exact t.elim
  | cons d ds =>
    obtain ⟨x, xs, rfl, r1, r2⟩ := r.inv_cons
    exact ⟨x, xs, rfl, d, σd, G, _, r1, rs, c, t, fun σd' G' σ' H' rs' c' l' t' => ⟨ds, σd', G', q, RelDs.le l' r2, rs', c', t', f.le l'⟩⟩
theorem low_jSub {to ti : TE3} {t : TSet3} {v : V} {Q : St → Hp → Prop} (h : lowG K (jSub to ti t) v σ H Q) : gSub (lowE K to) (lowE K ti) (lowSet K t) v σ H Q := by
  obtain ⟨d, σd, G, q, r, rs, c, t, f⟩ := h
  exact ⟨σd, G, _, rs, c, t, fun o G1 vo H1 r1 c1 l1 t1 => ⟨σd, G1, _, rs.le l1, c1, t1, fun i G2 vi H2 r2 c2 l2 t2 => ⟨o, i, d, G2, _, RelD.le l2 r1, r2, RelD.le (l1.trans l2) r, c2, t2, fun G3 H3 c3 l3 t3 =>
    f _ _ _ _ (rs.le (l1.trans (l2.trans l3))) c3 (l1.trans (l2.trans l3)) t3⟩⟩⟩
theorem low_asg {te : TE3} {g : TG3} (h : lowS K (dAsg te g) E σ H) : tAsg (lowE K te) (lowG K g) E σ H := by
  obtain ⟨σd, G, d, rs, c, t, f⟩ := h
  exact ⟨σd, G, _, rs, c, t, fun x G1 v H1 r1 c1 l1 t1 => ⟨x, σd, G1, _, r1, rs.le l1, c1, t1, f.nx.le l1⟩⟩
end

/-! ### while -/
noncomputable def whN (c : TT3) (tb : TS3) (E : Ends3) : Nat → DSt → Gp → Prop
  | 0, _, _ => False
  | n + 1, σ, G => c σ G fun b G1 => if b = true then tb { E with nx := whN c tb E n, ct := whN c tb E n, bk := E.nx } σ G1 else E.nx σ G1
noncomputable def dWhile (c : TT3) (tb : TS3) : TS3 := fun E σ G => ∃ n, whN c tb E n σ G
theorem low_while {K : PySem.W.Frag} {c : TT3} {tb : TS3} {σ : St} {H : Hp} {E : Ends} (h : lowS K (dWhile c tb) E σ H) : tWhile (lowT K c) (lowS K tb) E σ H := by
  obtain ⟨σd, G, d, rs, cc, ⟨n, t⟩, f⟩ := h
  refine ⟨fun m σ' H' => ∃ σd' G', Le H H' ∧ RelSt K H' σd' σ' ∧ Con K G' H' ∧ whN c tb d m σd' G', ⟨n, σd, G, Le.refl H, rs, cc, t⟩, ?_⟩
  rintro m σ1 H1 ⟨σd1, G1, l1, rs1, c1, t1⟩
  cases m with
  | zero => exact t1.elim
  | succ m =>
    refine ⟨σd1, G1, _, rs1, c1, t1, fun b G2 H2 c2 l2 t2 => ?_⟩
    cases b with
    | true =>
      rw [if_pos rfl] at t2 ⊢
      refine ⟨fun σ' H' => ∃ σd' G', Le H H' ∧ RelSt K H' σd' σ' ∧ Con K G' H' ∧ whN c tb d m σd' G', fun σ' H' w => ⟨m, Nat.lt_succ_self m, w⟩, σd1, G2, _, rs1.le l2, c2, t2, ?_, ?_, ?_, ?_⟩
      · exact fun σd3 G3 σ3 H3 rs3 c3 l3 t3 => ⟨σd3, G3, l1.trans (l2.trans l3), rs3, c3, t3⟩
      · exact f.rt.le (l1.trans l2)
      · exact f.nx.le (l1.trans l2)
      · exact fun σd3 G3 σ3 H3 rs3 c3 l3 t3 => ⟨σd3, G3, l1.trans (l2.trans l3), rs3, c3, t3⟩
    | false =>
      rw [if_neg Bool.false_ne_true] at t2 ⊢
      exact f.nx _ _ _ _ (rs1.le l2) c2 (l1.trans l2) t2

/-! ### for -/
/-- what is walked: its items; the list (if it is one) that must stay as it is -/
structure IT where
  items : List D
  ok : Gp → Prop
structure ItRel (K : PySem.W.Frag) (H0 : Hp) (it : IT) (J : It) : Prop where
  go : ∀ (i : Nat) G H, Le H0 H → Con K G H → it.ok G → i < it.items.length → J.go i H
  stop : ∀ (i : Nat) G H, Le H0 H → Con K G H → it.ok G → it.items.length ≤ i → J.stop i H
  yld : ∀ (i : Nat) G H x H', Le H0 H → Con K G H → it.ok G → i < it.items.length → J.yld i H x H' → Con K G H' ∧ Le H H' ∧ ∃ d, it.items[i]? = some d ∧ RelD K H' d x
noncomputable abbrev TI3 := DSt → Gp → (IT → Gp → Prop) → Prop
noncomputable def lowI (K : PySem.W.Frag) (t : TI3) : TI := fun σ H R => ∃ σd G r, RelSt K H σd σ ∧ Con K G H ∧ t σd G r ∧ ∀ it J G' H', ItRel K H' it J → Con K G' H' → Le H H' → r it G' → R J H'
noncomputable def forL (ok : Gp → Prop) (g : TG3) (tb : TS3) (E : Ends3) : List D → DSt → Gp → Prop
  | [], σ, G => ok G ∧ E.nx σ G
  | x :: r, σ, G => ok G ∧ g x σ G fun σ1 G1 => tb { E with nx := forL ok g tb E r, ct := forL ok g tb E r, bk := E.nx } σ1 G1
noncomputable def dFor (wi : TI3) (g : TG3) (tb : TS3) : TS3 := fun E σ G => wi σ G fun it G1 => forL it.ok g tb E it.items σ G1
theorem low_for {K : PySem.W.Frag} {wi : TI3} {g : TG3} {tb : TS3} {σ : St} {H : Hp} {E : Ends} (h : lowS K (dFor wi g tb) E σ H) : tFor (lowI K wi) (lowG K g) (lowS K tb) E σ H := by
  obtain ⟨σd, G, d, rs, cc, t, f⟩ := h
  refine ⟨σd, G, _, rs, cc, t, fun it J G1 H1 ir c1 l1 t1 => ?_⟩
  refine ⟨fun i m σ' H' => ∃ σd' G', Le H1 H' ∧ RelSt K H' σd' σ' ∧ Con K G' H' ∧ i + m = it.items.length ∧ forL it.ok g tb d (it.items.drop i) σd' G', ⟨it.items.length, σd, G1, Le.refl _, rs.le l1, c1, by omega, by rw [List.drop_zero]; exact t1⟩, ?_⟩
  rintro i m σ2 H2 ⟨σd2, G2, l2, rs2, c2, e2, t2⟩
  by_cases hi : i < it.items.length
  · rw [List.drop_eq_getElem_cons hi] at t2
    obtain ⟨ok2, t2⟩ := t2
    refine .inr ⟨ir.go i G2 H2 l2 c2 ok2 hi, fun σ' H' => ∃ σd' G', Le H1 H' ∧ RelSt K H' σd' σ' ∧ Con K G' H' ∧ forL it.ok g tb d (it.items.drop (i + 1)) σd' G', ?_, ?_⟩
    · rintro σ' H' ⟨σd', G', a1, a2, a3, a4⟩
      exact ⟨m - 1, by omega, σd', G', a1, a2, a3, by omega, a4⟩
    · intro x H3 y
      obtain ⟨c3, l3, e, he, r3⟩ := ir.yld i G2 H2 x H3 l2 c2 ok2 hi y
      rw [List.getElem?_eq_getElem hi] at he
      cases he
      refine ⟨_, σd2, G2, _, r3, rs2.le l3, c3, t2, fun σd4 G4 σ4 H4 rs4 c4 l4 t4 => ?_⟩
      have l14 : Le H1 H4 := l2.trans (l3.trans l4)
      have key : FutS K H4 (forL it.ok g tb d (it.items.drop (i + 1))) (fun σ' H' => ∃ σd' G', Le H1 H' ∧ RelSt K H' σd' σ' ∧ Con K G' H' ∧ forL it.ok g tb d (it.items.drop (i + 1)) σd' G') :=
        fun σd5 G5 σ5 H5 rs5 c5 l5 t5 => ⟨σd5, G5, l14.trans l5, rs5, c5, t5⟩
      exact ⟨σd4, G4, _, rs4, c4, t4, key, f.rt.le (l1.trans l14), f.nx.le (l1.trans l14), key⟩
  · rw [List.drop_eq_nil_of_le (by omega)] at t2
    exact .inl ⟨ir.stop i G2 H2 l2 c2 t2.1 (by omega), f.nx _ _ _ _ rs2 c2 (l1.trans l2) t2.2⟩

theorem RelDs.at_ {K : PySem.W.Frag} {H : Hp} {ds : List D} {xs : List V} {i : Nat} {x : V} (h : RelDs K H ds xs) (e : xs[i]? = some x) : ∃ d, ds[i]? = some d ∧ RelD K H d x := by
  have hl : i < ds.length := by rw [h.length]; exact (List.getElem?_eq_some_iff.mp e).1
  obtain ⟨y, hy, r⟩ := h.get (List.getElem?_eq_getElem hl)
  rw [e] at hy; cases hy
  exact ⟨_, List.getElem?_eq_getElem hl, r⟩
/-- the tuple, or the list, that is walked -/
theorem itrel_tup {K : PySem.W.Frag} {H0 : Hp} {a : Addr} {ds : List D} {xs : List V} (s : SqT K H0 a xs) (r : RelDs K H0 ds xs) : ItRel K H0 ⟨ds, fun _ => True⟩ (Itt K a) where
  go := fun i G H l c _ hi => ⟨xs, xs[i]'(by rw [← r.length]; exact hi), l.sqT s, List.getElem?_eq_getElem _⟩
  stop := fun i G H l c _ hi => ⟨xs, l.sqT s, by rw [← r.length]; exact hi⟩
  yld := fun i G H x H' l c _ hi y => by
    obtain ⟨e, y⟩ := y
    subst e
    have hx := y xs (l.sqT s)
    obtain ⟨d, hd, rd⟩ := (RelDs.le l r).at_ hx
    exact ⟨c, Le.refl _, d, hd, rd⟩
noncomputable def seqOf : Option DO → Option (List D)
  | some (.lst xs) => some xs
  | some (.fro xs) => some xs
  | _ => none
theorem sql_of {K : PySem.W.Frag} {G : Gp} {H : Hp} {a : Addr} {ds : List D} (c : Con K G H) (h : seqOf (G a) = some ds) : ∃ xs, SqL K H a xs ∧ RelDs K H ds xs := by
  cases e : G a with
  | none => rw [e] at h; cases h
  | some o =>
    rw [e] at h
    have q := c a o e
    cases o with
    | lst xs => cases h; obtain ⟨ys, q, r⟩ := q; exact ⟨ys, .inl (.inl q), r⟩
    | fro xs => cases h; obtain ⟨o, ys, q, r⟩ := q; exact ⟨ys, .inl (.inr ⟨o, q⟩), r⟩
    | dic _ => cases h
    | ins _ _ => cases h
theorem itrel_list {K : PySem.W.Frag} {H0 : Hp} {a : Addr} {ds : List D} : ItRel K H0 ⟨ds, fun G => seqOf (G a) = some ds⟩ (Itl K a) where
  go := fun i G H l c ok hi => by
    obtain ⟨xs, s, r⟩ := sql_of c ok
    exact ⟨xs, xs[i]'(by rw [← r.length]; exact hi), s, List.getElem?_eq_getElem _⟩
  stop := fun i G H l c ok hi => by
    obtain ⟨xs, s, r⟩ := sql_of c ok
    exact ⟨xs, s, by rw [← r.length]; exact hi⟩
  yld := fun i G H x H' l c ok hi y => by
    obtain ⟨e, y⟩ := y
    subst e
    obtain ⟨xs, s, r⟩ := sql_of c ok
    obtain ⟨d, hd, rd⟩ := r.at_ (y xs s)
    exact ⟨c, Le.refl _, d, hd, rd⟩
noncomputable def rngD (lo : Int) (n : Nat) : List D := (List.range n).map fun (i : Nat) => .int (lo + i)
theorem itrel_range {K : PySem.W.Frag} {H0 : Hp} {lo : Int} {n : Nat} : ItRel K H0 ⟨rngD lo n, fun _ => True⟩ (Itr lo n) where
  go := fun i G H l c _ hi => by
    have : i < n := by simpa [rngD] using hi
    exact this
  stop := fun i G H l c _ hi => by
    have : n ≤ i := by simpa [rngD] using hi
    exact this
  yld := fun i G H x H' l c _ hi y => by
    obtain ⟨e, y⟩ := y
    subst e; subst y
    refine ⟨c, Le.refl _, .int (lo + i), ?_, by rw [RelD]⟩
    have : i < n := by simpa [rngD] using hi
    simp [rngD, this]
end L3
namespace L3
open PySem L2
set_option maxHeartbeats 4000000
/-! ### calls -/
/-- a def's promise: R is sure of what comes back -/
noncomputable abbrev Sp3 := List D → Gp → DK → Prop
noncomputable def lowSp (K : PySem.W.Frag) (S : Sp3) : Sp := fun vs H Q _ => ∃ ds G R, RelDs K H ds vs ∧ Con K G H ∧ S ds G R ∧ FutE K H R Q
noncomputable def dCall (S : Sp3) (dds : List D) (t : TA3) : TE3 := fun σ G q => t σ G fun ds G1 => ∃ R, S (ds ++ dds) G1 R ∧ ∀ d G', R d G' → q d G'
noncomputable def dMeth (C : Addr) (m : Str) (S : Sp3) (dds : List D) (ta : TE3) (t : TA3) : TE3 := fun σ G q => ta σ G fun x G1 => match x with
  | .ref a => (match G1 a with
    | some (.ins C' fs) => C' = C ∧ fs.lookup m = none ∧ t σ G1 fun ds G2 => ∃ R, S (.ref a :: (ds ++ dds)) G2 R ∧ ∀ d G', R d G' → q d G'
    | _ => False)
  | _ => False
noncomputable def dMake (C : Addr) (S : Sp3) (dds : List D) (t : TA3) : TE3 := fun σ G q => t σ G fun ds G1 => ∀ x, G1 x = none →
  ∃ R, S (.ref x :: (ds ++ dds)) (gup G1 x (.ins C [])) R ∧ ∀ d G', R d G' → d = .non ∧ q (.ref x) G'
noncomputable def putD (f : Str) (v : D) : List (Str × D) → List (Str × D)
  | [] => [(f, v)]
  | (g, u) :: r => if g = f then (g, v) :: r else (g, u) :: putD f v r
noncomputable def dFld (C : Addr) (ta : TE3) (f : Str) : TE3 := fun σ G q => ta σ G fun x G1 => match x with
  | .ref a => (match G1 a with
    | some (.ins C' fs) => C' = C ∧ (match fs.lookup f with | some d => q d G1 | none => False)
    | _ => False)
  | _ => False
noncomputable def dSetF (C : Addr) (ta tv : TE3) (f : Str) : TS3 := fun E σ G => tv σ G fun y G1 => ta σ G1 fun x G2 => match x with
  | .ref a => (match G2 a with
    | some (.ins C' fs) => C' = C ∧ fs.length < 1000 ∧ E.nx σ (gup G2 a (.ins C (putD f y fs)))
    | _ => False)
  | _ => False
noncomputable def dAugF (C : Addr) (ta tv : TE3) (r : R3) (f : Str) : TS3 := fun E σ G => ta σ G fun x G1 => match x with
  | .ref a => (match G1 a with
    | some (.ins C' fs) => C' = C ∧ (match fs.lookup f with
      | some d => tv σ G1 fun y G2 => r d y G2 fun z G3 => (match G3 a with
        | some (.ins C'' fs') => C'' = C ∧ fs'.length < 1000 ∧ E.nx σ (gup G3 a (.ins C (putD f z fs')))
        | _ => False)
      | none => False)
    | _ => False)
  | _ => False
section
variable {K : PySem.W.Frag} {σ : St} {H : Hp} {Q : VK} {E : Ends}
theorem low_call {S : Sp3} {dds : List D} {dvs : List V} {t : TA3} {XE : XK} (hd : ∀ H, RelDs K H dds dvs) (h : lowE K (dCall S dds t) σ H Q) : tCall (lowSp K S) dvs XE (lowA K t) σ H Q := by
  obtain ⟨σd, G, q, rs, c, t, f⟩ := h
  exact ⟨σd, G, _, rs, c, t, fun ds G1 vs H1 r1 c1 l1 ⟨R, s1, t1⟩ => ⟨_, G1, R, r1.append (hd H1), c1, s1, fun d G2 v H2 r2 c2 l2 t2 => f d G2 v H2 r2 c2 (l1.trans l2) (t1 d G2 t2)⟩⟩
theorem RelD.refI {a : Addr} : RelD K H (.ref a) (.ref a) := by rw [RelD]
theorem RelD.ref_inv {a : Addr} {v : V} (h : RelD K H (.ref a) v) : v = .ref a := by rw [RelD] at h; exact h
theorem RelPs.lookup_none {κ : Type} [BEq κ] {k : κ} : ∀ {ps : List (κ × D)} {qs : List (κ × V)}, RelPs K H ps qs → ps.lookup k = none → qs.lookup k = none
  | [], qs, h, _ => by
    cases qs with
    | nil => rfl
    | cons _ _ => have := h.1; simp at this
  | (g, d) :: ps, qs, h, e => by
    cases qs with
    | nil => have := h.1; simp at this
    | cons q qs =>
      obtain ⟨g', v⟩ := q
      have h1 := h.1
      simp only [List.map_cons, List.cons.injEq] at h1
      obtain ⟨rfl, h1⟩ := h1
      obtain ⟨x, r, e2, _, h2⟩ := (show RelDs K H (d :: ps.map (·.2)) (v :: qs.map (·.2)) from h.2).inv_cons
      cases e2
      rw [List.lookup_cons] at e ⊢
      cases hk : k == g with
      | true => rw [hk] at e; cases e
      | false => rw [hk] at e; exact RelPs.lookup_none ⟨h1, h2⟩ e
theorem RelPs.lookup {κ : Type} [BEq κ] {k : κ} {d : D} : ∀ {ps : List (κ × D)} {qs : List (κ × V)}, RelPs K H ps qs → ps.lookup k = some d → ∃ v, qs.lookup k = some v ∧ RelD K H d v
  | [], qs, h, e => by cases e
  | (g, d') :: ps, qs, h, e => by
    cases qs with
    | nil => have := h.1; simp at this
    | cons q qs =>
      obtain ⟨g', v⟩ := q
      have h1 := h.1
      simp only [List.map_cons, List.cons.injEq] at h1
      obtain ⟨rfl, h1⟩ := h1
      obtain ⟨x, r, e2, r1, h2⟩ := (show RelDs K H (d' :: ps.map (·.2)) (v :: qs.map (·.2)) from h.2).inv_cons
      cases e2
      rw [List.lookup_cons] at e ⊢
      cases hk : k == g with
      | true => rw [hk] at e; cases e; exact ⟨v, rfl, r1⟩
      | false => rw [hk] at e; exact RelPs.lookup ⟨h1, h2⟩ e
theorem RelPs.nil {κ : Type} : RelPs (κ := κ) K H [] [] := ⟨rfl, .nil⟩
theorem RelPs.cons {κ : Type} {k : κ} {d : D} {v : V} {ps : List (κ × D)} {qs : List (κ × V)} (r : RelD K H d v) (h : RelPs K H ps qs) : RelPs K H ((k, d) :: ps) ((k, v) :: qs) :=
  ⟨by simp [h.1], .cons r h.2⟩
theorem RelPs.inv_cons {κ : Type} {k : κ} {d : D} {ps : List (κ × D)} {qs : List (κ × V)} (h : RelPs K H ((k, d) :: ps) qs) : ∃ v r, qs = (k, v) :: r ∧ RelD K H d v ∧ RelPs K H ps r := by
  cases qs with
  | nil => have := h.1; simp at this
  | cons q qs =>
    obtain ⟨g', v⟩ := q
    have h1 := h.1
    simp only [List.map_cons, List.cons.injEq] at h1
    obtain ⟨rfl, h1⟩ := h1
    obtain ⟨x, r, e2, r1, h2⟩ := (show RelDs K H (d :: ps.map (·.2)) (v :: qs.map (·.2)) from h.2).inv_cons
    cases e2
    exact ⟨v, qs, rfl, r1, h1, h2⟩
theorem RelPs.inv_nil {κ : Type} {qs : List (κ × V)} (h : RelPs K H [] qs) : qs = [] := by
  cases qs with
  | nil => rfl
  | cons _ _ => have := h.1; simp at this
theorem RelPs.putF {f : Str} {d : D} {v : V} (r : RelD K H d v) : ∀ {ps : List (Str × D)} {qs : List (Str × V)}, RelPs K H ps qs → RelPs K H (putD f d ps) (L2.putF f v qs)
  | [], qs, h => by rw [h.inv_nil]; exact RelPs.cons r RelPs.nil
  | (g, d') :: ps, qs, h => by
    obtain ⟨u, qs', rfl, r1, h2⟩ := h.inv_cons
    show RelPs K H (if g = f then (g, d) :: ps else (g, d') :: putD f d ps) (if g = f then (g, v) :: qs' else (g, u) :: L2.putF f v qs')
    split
    · exact RelPs.cons r h2
    · exact RelPs.cons r1 (RelPs.putF r h2)
theorem RelPs.length {κ : Type} {ps : List (κ × D)} {qs : List (κ × V)} (h : RelPs K H ps qs) : ps.length = qs.length := by
  have := h.2.length; simpa using this
theorem low_meth {C : Addr} {m : Str} {S : Sp3} {dds : List D} {dvs : List V} {ta : TE3} {t : TA3} {XE : XK} (hd : ∀ H, RelDs K H dds dvs) (h : lowE K (dMeth C m S dds ta t) σ H Q) : tMeth C m (lowSp K S) dvs XE (lowE K ta) (lowA K t) σ H Q := by
  obtain ⟨σd, G, q, rs, c, t, f⟩ := h
  refine ⟨σd, G, _, rs, c, t, fun x G1 v H1 r1 c1 l1 t1 => ?_⟩
  split at t1
  · rename_i a
    split at t1
    · rename_i C' fs e
      obtain ⟨rfl, n, t1⟩ := t1
      obtain ⟨dx, ys, e2, rf⟩ := c1 _ _ e
      refine ⟨a, dx, ys, r1.ref_inv, e2, rf.lookup_none n, σd, G1, _, rs.le l1, c1, t1, fun ds G2 vs H2 r2 c2 l2 ⟨R, s2, t2⟩ => ?_⟩
      exact ⟨_, G2, R, .cons (RelD.le l2 r1) (r2.append (hd H2)), c2, s2, fun d G3 v H3 r3 c3 l3 t3 => f d G3 v H3 r3 c3 (l1.trans (l2.trans l3)) (t2 d G3 t3)⟩
    · exact t1.elim
  · exact t1.elim
theorem Con.insNew {G : Gp} {x dx C : Addr} (c : Con K G H) (h : H x = none) (h' : H dx = none) (ne : dx ≠ x) : Con K (gup G x (.ins C [])) (upd (upd H dx (.own x)) x (.ins C dx [])) ∧ Le H (upd (upd H dx (.own x)) x (.ins C dx [])) := by
  have c1 := c.side (u := .own x) h'
  have hx : upd H dx (.own x) x = none := by rw [upd_ne (Ne.symm ne)]; exact h
  exact ⟨c1.put (Le.fresh hx) ⟨dx, [], upd_same, RelPs.nil⟩, (Le.fresh h').trans (Le.fresh hx)⟩
theorem low_make {C : Addr} {S : Sp3} {dds : List D} {dvs : List V} {t : TA3} {XE : XK} (hd : ∀ H, RelDs K H dds dvs) (h : lowE K (dMake C S dds t) σ H Q) : tMake C (lowSp K S) dvs XE (lowA K t) σ H Q := by
  obtain ⟨σd, G, q, rs, c, t, f⟩ := h
  refine ⟨σd, G, _, rs, c, t, fun ds G1 vs H1 r1 c1 l1 t1 x dx hx hdx ne => ?_⟩
  obtain ⟨R, s1, t1⟩ := t1 x (c1.fresh hx)
  obtain ⟨c2, l2⟩ := c1.insNew (C := C) hx hdx ne
  refine ⟨_, _, R, .cons RelD.refI ((RelDs.le l2 r1).append (hd _)), c2, s1, fun d G3 v H3 r3 c3 l3 t3 => ?_⟩
  obtain ⟨rfl, t4⟩ := t1 d G3 t3
  exact ⟨by rw [RelD] at r3; exact r3, f _ _ _ _ RelD.refI c3 (l1.trans (l2.trans l3)) t4⟩
theorem low_fld {C : Addr} {ta : TE3} {f : Str} (cl : Cls K C) (na : NoAttr K C f) (h : lowE K (dFld C ta f) σ H Q) : tFld K (lowE K ta) f σ H Q := by
  obtain ⟨σd, G, q, rs, c, t, fu⟩ := h
  refine ⟨σd, G, _, rs, c, t, fun x G1 v H1 r1 c1 l1 t1 => ?_⟩
  split at t1
  · rename_i a
    split at t1
    · rename_i C' fs e
      obtain ⟨rfl, t1⟩ := t1
      obtain ⟨dx, ys, e2, rf⟩ := c1 _ _ e
      split at t1
      · rename_i d el
        obtain ⟨w, ew, rw'⟩ := rf.lookup el
        exact ⟨a, _, dx, ys, w, r1.ref_inv, e2, cl, na, ew, fu d G1 w H1 rw' c1 l1 t1⟩
      · exact t1.elim
    · exact t1.elim
  · exact t1.elim
theorem low_setF {C : Addr} {ta tv : TE3} {f : Str} (cl : Cls K C) (na : NoAttr K C f) (h : lowS K (dSetF C ta tv f) E σ H) : sFld K (lowE K ta) (lowE K tv) f E σ H := by
  obtain ⟨σd, G, d, rs, c, t, fu⟩ := h
  refine ⟨σd, G, _, rs, c, t, fun y G1 v H1 r1 c1 l1 t1 => ⟨σd, G1, _, rs.le l1, c1, t1, fun x G2 w H2 r2 c2 l2 t2 => ?_⟩⟩
  split at t2
  · rename_i a
    split at t2
    · rename_i C' fs e
      obtain ⟨rfl, hl, t2⟩ := t2
      obtain ⟨dx, ys, e2, rf⟩ := c2 _ _ e
      refine ⟨a, _, dx, ys, r2.ref_inv, e2, cl, na, by rw [← rf.length]; exact hl, ?_⟩
      have l3 := Le.ins (C' := C') (dx' := dx) (ys := L2.putF f v ys) e2
      exact fu.nx _ _ _ _ (rs.le (l1.trans (l2.trans l3))) (c2.put (o := .ins C' (putD f y fs)) l3 ⟨dx, _, upd_same, RelPs.le l3 (rf.putF (RelD.le l2 r1))⟩) (l1.trans (l2.trans l3)) t2
    · exact t2.elim
  · exact t2.elim
theorem low_augF {C : Addr} {ta tv : TE3} {r : R3} {f : Str} (cl : Cls K C) (na : NoAttr K C f) (h : lowS K (dAugF C ta tv r f) E σ H) : sFldAug K (lowE K ta) (lowE K tv) (lowR K r) f E σ H := by
  obtain ⟨σd, G, d, rs, c, t, fu⟩ := h
  refine ⟨σd, G, _, rs, c, t, fun x G1 v H1 r1 c1 l1 t1 => ?_⟩
  split at t1
  · rename_i a
    split at t1
    · rename_i C' fs e
      obtain ⟨rfl, t1⟩ := t1
      obtain ⟨dx, ys, e2, rf⟩ := c1 _ _ e
      split at t1
      · rename_i d0 el
        obtain ⟨w, ew, rw'⟩ := rf.lookup el
        refine ⟨a, _, dx, ys, w, r1.ref_inv, e2, cl, na, ew, σd, G1, _, rs.le l1, c1, t1, fun y G2 u H2 r2 c2 l2 t2 => ?_⟩
        refine ⟨d0, y, G2, _, RelD.le l2 rw', r2, c2, t2, fun z G3 vz H3 r3 c3 l3 t3 => ?_⟩
        split at t3
        · rename_i C'' fs' e'
          obtain ⟨rfl, hl, t3⟩ := t3
          obtain ⟨dx', ys', e3, rf'⟩ := c3 _ _ e'
          refine ⟨dx', ys', e3, by rw [← rf'.length]; exact hl, ?_⟩
          have l4 := Le.ins (C' := C'') (dx' := dx') (ys := L2.putF f vz ys') e3
          have l14 := l1.trans (l2.trans (l3.trans l4))
          exact fu.nx _ _ _ _ (rs.le l14) (c3.put (o := .ins C'' (putD f z fs')) l4 ⟨dx', _, upd_same, RelPs.le l4 (rf'.putF r3)⟩) l14 t3
        · exact t3.elim
      · exact t1.elim
    · exact t1.elim
  · exact t1.elim
theorem low_b {te : TE3} {Q : Bool → Hp → Prop} (h : lowT K (dB te) σ H Q) : tB (lowE K te) σ H Q := by
  obtain ⟨σd, G, q, rs, c, t, f⟩ := h
  refine ⟨σd, G, _, rs, c, t, fun x G1 v H1 r1 c1 l1 t1 => ?_⟩
  split at t1
  · rename_i k
    exact ⟨k, r1.bl_inv, f _ _ _ c1 l1 t1⟩
  · exact t1.elim
theorem low_andV {ta tb : TE3} (h : lowE K (dAndV ta tb) σ H Q) : tAndV (lowE K ta) (lowE K tb) σ H Q := by
  obtain ⟨σd, G, q, rs, c, t, f⟩ := h
  refine ⟨σd, G, _, rs, c, t, fun x G1 v H1 r1 c1 l1 t1 => ?_⟩
  split at t1
  · rename_i k
    refine ⟨k, r1.bl_inv, ?_⟩
    cases k with
    | true => rw [if_pos rfl] at t1 ⊢; exact ⟨σd, G1, q, rs.le l1, c1, t1, f.le l1⟩
    | false => rw [if_neg Bool.false_ne_true] at t1 ⊢; exact f _ _ _ _ (by rw [RelD]) c1 l1 t1
  · exact t1.elim
theorem low_notV {ta : TE3} (h : lowE K (dNotV ta) σ H Q) : tNotV (lowE K ta) σ H Q := by
  obtain ⟨σd, G, q, rs, c, t, f⟩ := h
  refine ⟨σd, G, _, rs, c, t, fun x G1 v H1 r1 c1 l1 t1 => ?_⟩
  split at t1
  · rename_i k
    exact ⟨k, r1.bl_inv, f _ _ _ _ (by rw [RelD]) c1 l1 t1⟩
  · exact t1.elim
/-- x op= e -/
noncomputable def dAug (i : Nat) (te : TE3) (r : R3) : TS3 := fun E σ G => match σ[i]? with
  | some (some x) => te σ G fun y G1 => r x y G1 fun z G2 => E.nx (σ.set i (some z)) G2
  | _ => False
theorem low_aug {i : Nat} {te : TE3} {r : R3} (h : lowS K (dAug i te r) E σ H) : tAug i (lowE K te) (lowR K r) E σ H := by
  obtain ⟨σd, G, d, rs, c, t, fu⟩ := h
  unfold dAug at t
  split at t
  · rename_i x e
    obtain ⟨v, hv, r1⟩ := rs.2 i x e
    refine ⟨v, hv, σd, G, _, rs, c, t, fun y G1 u H1 r2 c1 l1 t1 => ?_⟩
    exact ⟨x, y, G1, _, RelD.le l1 r1, r2, c1, t1, fun z G2 vz H2 r3 c2 l2 t2 => fu.nx _ _ _ _ ((rs.le (l1.trans l2)).set i r3) c2 (l1.trans l2) t2⟩
  · exact t.elim
/-! ### slices, built-in calls and methods -/
noncomputable abbrev TO3 := DSt → Gp → (Option Int → Gp → Prop) → Prop
noncomputable def lowO (K : PySem.W.Frag) (t : TO3) : TO := fun σ H Q => ∃ σd G q, RelSt K H σd σ ∧ Con K G H ∧ t σd G q ∧ ∀ o G' H', Con K G' H' → Le H H' → q o G' → Q o H'
noncomputable def dNoPart : TO3 := fun _ G q => q none G
noncomputable def dPart (t : TE3) : TO3 := fun σ G q => t σ G fun x G1 => match x with | .int i => q (some i) G1 | _ => False
theorem low_noPart {Q : Option Int → Hp → Prop} (h : lowO K dNoPart σ H Q) : tNoPart σ H Q := by
  obtain ⟨σd, G, q, rs, c, t, f⟩ := h
  exact f _ _ _ c (Le.refl H) t
theorem low_part {t : TE3} {Q : Option Int → Hp → Prop} (h : lowO K (dPart t) σ H Q) : tPart (lowE K t) σ H Q := by
  obtain ⟨σd, G, q, rs, c, t, f⟩ := h
  refine ⟨σd, G, _, rs, c, t, fun x G1 v H1 r1 c1 l1 t1 => ?_⟩
  split at t1
  · rename_i k
    rw [RelD] at r1
    exact ⟨k, r1, f _ _ _ c1 l1 t1⟩
  · exact t1.elim
noncomputable abbrev RS3 := D → Option Int → Option Int → Gp → DK → Prop
noncomputable def lowRS (K : PySem.W.Frag) (r : RS3) : V → Option Int → Option Int → Hp → VK → Prop := fun x l u H Q => ∃ d G q, RelD K H d x ∧ Con K G H ∧ r d l u G q ∧ FutE K H q Q
noncomputable def dSl (r : RS3) (te : TE3) (tl th : TO3) : TE3 := fun σ G q => te σ G fun x G1 => tl σ G1 fun l G2 => th σ G2 fun u G3 => r x l u G3 q
theorem low_sl {r : RS3} {te : TE3} {tl th : TO3} (h : lowE K (dSl r te tl th) σ H Q) : tSl (lowRS K r) (lowE K te) (lowO K tl) (lowO K th) σ H Q := by
  obtain ⟨σd, G, q, rs, c, t, f⟩ := h
  exact ⟨σd, G, _, rs, c, t, fun x G1 v H1 r1 c1 l1 t1 => ⟨σd, G1, _, rs.le l1, c1, t1, fun o G2 H2 c2 l2 t2 => ⟨σd, G2, _, rs.le (l1.trans l2), c2, t2, fun u G3 H3 c3 l3 t3 =>
    ⟨x, G3, q, RelD.le (l2.trans l3) r1, c3, t3, f.le (l1.trans (l2.trans l3))⟩⟩⟩⟩
noncomputable def dCB (r : C3) (t : TA3) : TE3 := fun σ G q => t σ G fun ds G1 => r ds G1 q
theorem low_cb {r : C3} {t : TA3} (h : lowE K (dCB r t) σ H Q) : tCB (lowC K r) (lowA K t) σ H Q := by
  obtain ⟨σd, G, q, rs, c, t, f⟩ := h
  exact ⟨σd, G, _, rs, c, t, fun ds G1 vs H1 r1 c1 l1 t1 => ⟨ds, G1, q, r1, c1, t1, f.le l1⟩⟩
/-- a method of a built-in: of the object and the arguments -/
noncomputable abbrev M3 := D → List D → Gp → DK → Prop
noncomputable def lowM (K : PySem.W.Frag) (r : M3) : V → List V → Hp → VK → Prop := fun x xs H Q => ∃ d ds G q, RelD K H d x ∧ RelDs K H ds xs ∧ Con K G H ∧ r d ds G q ∧ FutE K H q Q
noncomputable def tyD (G : Gp) (T : String) : D → Prop
  | .str _ => T = "str"
  | .int _ => T = "int"
  | .ref a => match G a with
    | some (.lst _) => T = "list"
    | some (.fro _) => T = "list"
    | some (.dic _) => T = "dict"
    | _ => False
  | _ => False
noncomputable def dBM (T : String) (r : M3) (to : TE3) (t : TA3) : TE3 := fun σ G q => to σ G fun x G1 => tyD G1 T x ∧ t σ G1 fun ds G2 => r x ds G2 q
noncomputable def dBM0 (T : String) (r : M3) (to : TE3) : TE3 := fun σ G q => to σ G fun x G1 => tyD G1 T x ∧ r x [] G1 q
theorem low_bm {T : String} {r : M3} {to : TE3} {t : TA3} (ty : ∀ G H x v, Con K G H → RelD K H x v → tyD G T x → tyV K T v H) (h : lowE K (dBM T r to t) σ H Q) : tBM K T (lowM K r) (lowE K to) (lowA K t) σ H Q := by
  obtain ⟨σd, G, q, rs, c, t, f⟩ := h
  exact ⟨σd, G, _, rs, c, t, fun x G1 v H1 r1 c1 l1 ⟨y, t1⟩ => ⟨ty G1 H1 x v c1 r1 y, σd, G1, _, rs.le l1, c1, t1, fun ds G2 vs H2 r2 c2 l2 t2 => ⟨x, ds, G2, q, RelD.le l2 r1, r2, c2, t2, f.le (l1.trans l2)⟩⟩⟩
/-! ### what is walked -/
end
end L3

namespace L3
open PySem PySem.Spec PyProof.Rows L2
set_option maxHeartbeats 4000000
/-! ### the judgements -/
section
variable {X : Cx}
theorem weakE {e : Expr} {t t' : TE} (h : PE X e t) (w : ∀ σ H Q, t' σ H Q → t σ H Q) : PE X e t' := fun pins s σ H Q I q => h pins s σ H Q I (w _ _ _ q)
theorem weakT {e : Expr} {t t' : TT} (h : PT X e t) (w : ∀ σ H Q, t' σ H Q → t σ H Q) : PT X e t' := fun pins s σ H Q I q => h pins s σ H Q I (w _ _ _ q)
theorem weakW {e : Expr} {t t' : TT} (h : PW X e t) (w : ∀ σ H Q, t' σ H Q → t σ H Q) : PW X e t' := fun wh pins s σ H Q I q => h wh pins s σ H Q I (w _ _ _ q)
theorem weakA {e : List Expr} {t t' : TA} (h : PA X e t) (w : ∀ σ H Q, t' σ H Q → t σ H Q) : PA X e t' := fun pos pins s σ H Q I q => h pos pins s σ H Q I (w _ _ _ q)
theorem weakS {e : Stmt} {t t' : TS} (h : PS X e t) (w : ∀ D σ H, t' D σ H → t D σ H) : PS X e t' := fun pins s σ H D I q => h pins s σ H D I (w _ _ _ q)
theorem weakSs {e : List Stmt} {t t' : TS} (h : PSs X e t) (w : ∀ D σ H, t' D σ H → t D σ H) : PSs X e t' := fun pins s σ H D I q => h pins s σ H D I (w _ _ _ q)
theorem weakG {e : Expr} {t t' : TG} (h : PG X e t) (w : ∀ v σ H Q, t' v σ H Q → t v σ H Q) : PG X e t' := fun pins s σ H v u Q I r q => h pins s σ H v u Q I r (w _ _ _ _ q)
theorem weakGs {e : List Expr} {t t' : TGs} (h : PGs X e t) (w : ∀ v σ H Q, t' v σ H Q → t v σ H Q) : PGs X e t' := fun pins s σ H v u Q I r q => h pins s σ H v u Q I r (w _ _ _ _ q)
theorem weakSet {t t' : TSet} (h : PSet X t) (w : ∀ o i v H Q, t' o i v H Q → t o i v H Q) : PSet X t' := fun pins s σ H o i v ov iv u Q I r1 r2 r3 q => h pins s σ H o i v ov iv u Q I r1 r2 r3 (w _ _ _ _ _ q)
theorem weakI {tg e : Expr} {t t' : TI} (h : PI X tg e t) (w : ∀ σ H R, t' σ H R → t σ H R) : PI X tg e t' := fun pins s σ H R I q => h pins s σ H R I (w _ _ _ q)
theorem weakOp {f : Value → Value → Sem Value} {r r' : R2} (h : OpR X f r) (w : ∀ x y H Q, r' x y H Q → r x y H Q) : OpR X f r' := fun pins s σ H x y v u Q I a b q => h pins s σ H x y v u Q I a b (w _ _ _ _ q)
theorem weakUn {f : Value → Sem Value} {r r' : V → Hp → VK → Prop} (h : UnR X f r) (w : ∀ x H Q, r' x H Q → r x H Q) : UnR X f r' := fun pins s σ H x v Q I a q => h pins s σ H x v Q I a (w _ _ _ q)
theorem weakCall {f : Value} {r r' : List V → Hp → VK → Prop} (h : CallR X f r) (w : ∀ x H Q, r' x H Q → r x H Q) : CallR X f r' := fun pins s σ H x v Q I a q => h pins s σ H x v Q I a (w _ _ _ q)
theorem weakMt {id : String} {r r' : V → List V → Hp → VK → Prop} (h : MtR X id r) (w : ∀ x xs H Q, r' x xs H Q → r x xs H Q) : MtR X id r' := fun pins s σ H x xs v us Q I a b q => h pins s σ H x xs v us Q I a b (w _ _ _ _ q)
theorem weakIx {r r' : R2} (h : IxR X r) (w : ∀ x y H Q, r' x y H Q → r x y H Q) : IxR X r' := fun va sl pins s σ H x y v u Q I a b q => h va sl pins s σ H x y v u Q I a b (w _ _ _ _ q)
theorem weakSl {r r' : V → Option Int → Option Int → Hp → VK → Prop} (h : SlR X r) (w : ∀ x l u H Q, r' x l u H Q → r x l u H Q) : SlR X r' := by
  intro pins s σ H x lo hi
  intros
  apply h <;> first | assumption | (apply w; assumption)
theorem weakO {e : Option Expr} {t t' : TO} (h : PO X e t) (w : ∀ σ H Q, t' σ H Q → t σ H Q) : PO X e t' := by
  intro pins s σ H Q I q
  exact h pins s σ H Q I (w _ _ _ q)
theorem weakIfs {e : List Expr} {t t' : TT} (h : PIfs X e t) (w : ∀ σ H Q, t' σ H Q → t σ H Q) : PIfs X e t' := fun pins s σ H Q I q => h pins s σ H Q I (w _ _ _ q)
end
noncomputable def E3 (X : Cx) (e : Expr) (t : TE3) : Prop := PE X e (lowE X.K t)
noncomputable def T3 (X : Cx) (e : Expr) (t : TT3) : Prop := PT X e (lowT X.K t)
noncomputable def W3 (X : Cx) (e : Expr) (t : TT3) : Prop := PW X e (lowT X.K t)
noncomputable def A3 (X : Cx) (es : List Expr) (t : TA3) : Prop := PA X es (lowA X.K t)
noncomputable def S3 (X : Cx) (st : Stmt) (t : TS3) : Prop := PS X st (lowS X.K t)
noncomputable def Ss3 (X : Cx) (sts : List Stmt) (t : TS3) : Prop := PSs X sts (lowS X.K t)
noncomputable def J3 (X : Cx) (e : Expr) (t : TG3) : Prop := PG X e (lowG X.K t)
noncomputable def Js3 (X : Cx) (es : List Expr) (t : TGs3) : Prop := PGs X es (lowGs X.K t)
noncomputable def I3 (X : Cx) (tg e : Expr) (t : TI3) : Prop := PI X tg e (lowI X.K t)
noncomputable def O3 (X : Cx) (e : Option Expr) (t : TO3) : Prop := PO X e (lowO X.K t)
noncomputable def Ifs3 (X : Cx) (es : List Expr) (t : TT3) : Prop := PIfs X es (lowT X.K t)
noncomputable abbrev Op3 (X : Cx) (f : Value → Value → Sem Value) (r : R3) : Prop := OpR X f (lowR X.K r)
noncomputable abbrev Call3 (X : Cx) (f : Value) (r : C3) : Prop := CallR X f (lowC X.K r)

section
variable {X : Cx} {a b c e o : Expr} {es : List Expr} {pos apos cpos p p2 : Pos} {ta tb tc te : TE3} {t u : TT3} {ts us : TA3}
theorem ev (i : Nat) {x : Str} {pos : Pos} (hN : X.N[i]? = some x := by rfl) (hv : Vis X.env.scope x := by first | exact Or.inl rfl | exact Or.inr (Or.inl rfl) | exact Or.inr (Or.inr rfl)) (hd : (x == ("__debug__" : Str)) = false := by decide)
    (hcd : (x == ("__classdict__" : Str)) = false := by decide) : E3 X (.Name x pos) (dVar i) := weakE (pe_var hN hv hd hcd) fun _ _ _ => low_var
theorem e_int {i j pos} : E3 X (.Constant (.int i) j pos) (dC (.int i)) := weakE pe_int fun _ _ _ => low_c fun _ => by rw [RelD]
theorem e_bl {i j pos} : E3 X (.Constant (.bool i) j pos) (dC (.bl i)) := weakE pe_bl fun _ _ _ => low_c fun _ => by rw [RelD]
theorem e_non {j pos} : E3 X (.Constant .none j pos) (dC .non) := weakE pe_non fun _ _ _ => low_c fun _ => by rw [RelD]
theorem e_str {x j pos} : E3 X (.Constant (.str x) j pos) (dC (.str x)) := weakE pe_str fun _ _ _ => low_c fun _ => by rw [RelD]
theorem e_glob {x : Str} {d : D} {v : V} {w : Value} (hg : Gl X x) (hm : X.mg x = some w) (r : RelV v w) (rd : ∀ H, RelD X.K H d v) (hd : (x == ("__debug__" : Str)) = false := by decide) : E3 X (.Name x pos) (dC d) :=
  weakE (pe_glob hg hm r hd) fun _ _ _ => low_c rd
theorem e_bin {op : Operator} {r : R3} (ho : Op3 X (binaryOp op) r) (ha : E3 X a ta) (hb : E3 X b tb) : E3 X (.BinOp a op b pos) (dOp r ta tb) := weakE (pe_op ho ha hb) fun _ _ _ => low_op
theorem e_un {op : UnaryOp} {r : U3} (ho : UnR X (unaryOp op) (lowU X.K r)) (ha : E3 X a ta) : E3 X (.UnaryOp op a pos) (dUn r ta) := weakE (pe_un ho ha) fun _ _ _ => low_un
theorem e_cmp {op : CmpOp} {r : R3} (ho : Op3 X (compareOp op) r) (ha : E3 X a ta) (hb : E3 X b tb) (hm : behindInMarks op b = false) : E3 X (.Compare a [op] [b] pos) (dOp r ta tb) := weakE (pe_cmpR ho ha hb hm) fun _ _ _ => low_op
theorem t_cmp {op : CmpOp} {r : R3} (ho : Op3 X (compareOp op) r) (ha : E3 X a ta) (hb : E3 X b tb) (hm : behindInMarks op b = false) : T3 X (.Compare a [op] [b] pos) (dB (dOp r ta tb)) :=
  weakT (pt_cmpR ho ha hb hm) fun σ H Q h => by
    obtain ⟨σd, G, q, rs, c, t, f⟩ := h
    exact low_op (K := X.K) ⟨σd, G, _, rs, c, t, fun x G1 v H1 r1 c1 l1 t1 => by
      split at t1
      · rename_i k
        exact ⟨k, r1.bl_inv, f _ _ _ c1 l1 t1⟩
      · exact t1.elim⟩
theorem t_val (h : E3 X e te) (he : ∀ whole, isTrue e X.env whole = (do let v ← whole; standAt e.pos; holding [v] (truthy v)) := by intro _; rfl) : T3 X e (dB te) := weakT (pt_val h he) fun _ _ _ => low_b
theorem w_and1 (ha : T3 X a t) : W3 X (.BoolOp .And [a] pos) t := pw_and1 ha
theorem w_or1 (ha : T3 X a t) : W3 X (.BoolOp .Or [a] pos) t := pw_or1 ha
theorem w_and {rest : List Expr} (ha : T3 X a t) (hb : W3 X (.BoolOp .And (b :: rest) pos) u) : W3 X (.BoolOp .And (a :: b :: rest) pos) (dAnd t u) := weakW (pw_and ha hb) fun _ _ _ => low_andT
theorem w_or {rest : List Expr} (ha : T3 X a t) (hb : W3 X (.BoolOp .Or (b :: rest) pos) u) : W3 X (.BoolOp .Or (a :: b :: rest) pos) (dOr t u) := weakW (pw_or ha hb) fun _ _ _ => low_orT
theorem t_w (h : W3 X e t) : T3 X e t := PW.pt h
theorem t_not (ha : T3 X a t) : T3 X (.UnaryOp .Not a pos) (dNot t) := weakT (pt_not ha) fun _ _ _ => low_notT
theorem e_one {op} (h : E3 X a ta) : E3 X (.BoolOp op [a] pos) ta := pe_one h
theorem e_and {rest : List Expr} (ha : E3 X a ta) (hb : E3 X (.BoolOp .And (b :: rest) pos) tb) : E3 X (.BoolOp .And (a :: b :: rest) pos) (dAndV ta tb) := weakE (pe_and ha hb) fun _ _ _ => low_andV
theorem e_not (ha : E3 X a ta) : E3 X (.UnaryOp .Not a pos) (dNotV ta) := weakE (pe_not ha) fun _ _ _ => low_notV
theorem e_if (hc : T3 X c t) (ha : E3 X a ta) (hb : E3 X b tb) : E3 X (.IfExp c a b pos) (dIf t ta tb) := weakE (pe_ifExp hc ha hb) fun _ _ _ => low_if
theorem a_nil : A3 X [] dNil := weakA pa_nil fun _ _ _ => low_nil
theorem a_cons (ha : E3 X e te) (hr : A3 X es ts) (hs : starEach (e :: es) X.env = (false, eval e X.env) :: starEach es X.env := by rfl) : A3 X (e :: es) (dCons te ts) := weakA (pa_cons ha hr hs) fun _ _ _ => low_cons
theorem e_tup {x1} (h : A3 X es ts) : E3 X (.Tuple es x1 pos) (dTup ts) := weakE (pe_tup h) fun _ _ _ => low_tup
theorem e_lst (h : A3 X es ts) : E3 X (.List es pos) (dLst ts) := weakE (pe_lst h) fun _ _ _ => low_lst
theorem e_ix {r : R3} (hr : IxR X (lowR X.K r)) (ha : E3 X a ta) (hb : E3 X b tb) (hs : PlainIx b := by exact fun _ _ => rfl) : E3 X (.Subscript a b pos) (dOp r ta tb) := weakE (pe_ix hr ha hb hs) fun _ _ _ => low_op
theorem o_none : O3 X none dNoPart := weakO po_none fun _ _ _ => low_noPart
theorem o_some (h : E3 X e te) : O3 X (some e) (dPart te) := weakO (po_some h) fun _ _ _ => low_part
theorem e_sl {r : RS3} {lo hi : Option Expr} {tl th : TO3} (hr : SlR X (lowRS X.K r)) (he : E3 X e te) (hl : O3 X lo tl) (hu : O3 X hi th) : E3 X (.Subscript e (.Slice lo hi none p2) pos) (dSl r te tl th) := weakE (pe_slice hr he hl hu) fun _ _ _ => low_sl
end

/-! ### statements -/
section
variable {X : Cx} {a b c e o value : Expr} {es : List Expr} {st : Stmt} {sts sts2 : List Stmt} {pos pos' spos tpos : Pos} {te ta tv : TE3} {t : TT3} {s1 s2 : TS3} {g : TG3}
theorem ss_nil : Ss3 X [] dNext := weakSs pss_nil fun _ _ _ => low_next
theorem ss_cons (h1 : S3 X st s1) (h2 : Ss3 X sts s2) : Ss3 X (st :: sts) (dSeq s1 s2) := weakSs (pss_cons h1 h2) fun _ _ _ => low_seq
theorem ss_one (h1 : S3 X st s1) : Ss3 X [st] s1 := pss_one h1
theorem s_expr (he : E3 X e te) (hs : swapsWith e none pos.line X.env = pure false := by rfl) : S3 X (.Expr e pos) (dDrop te) := weakS (ps_expr he hs) fun _ _ _ => low_drop
theorem s_ret (he : E3 X e te) : S3 X (.Return (some e) pos) (dRet te) := weakS (ps_ret he) fun _ _ _ => low_ret
theorem s_retN : S3 X (.Return none pos) dRetN := weakS ps_retN fun _ _ _ => low_retN
theorem s_if (hc : T3 X c t) (ha : Ss3 X sts s1) (hb : Ss3 X sts2 s2) : S3 X (.If c sts sts2 pos) (dIfS t s1 s2) := weakS (ps_if hc ha hb) fun _ _ _ => low_ifS
theorem j_name (i : Nat) {x : Str} (hN : X.N.Nodup) (hi : X.N[i]? = some x := by rfl) (hx : Loc X.env.scope x := by first | exact Or.inl rfl | exact Or.inr rfl) (hf : X.fn x = true ∨ X.env.scope.names.lookup x = some .local := by first | exact .inl rfl | exact .inr rfl | assumption) : J3 X (.Name x pos) (jName i) :=
  weakG (pg_name hN hi hx hf) fun _ _ _ _ => low_jName
theorem js_nil : Js3 X [] jNil := weakGs pgs_nil fun _ _ _ _ => low_jNil
theorem js_cons {t : TG3} {u : TGs3} (h1 : J3 X e t) (h2 : Js3 X es u) (hs : (assignEach (e :: es) X.env).map (·.2) = assign e X.env :: (assignEach es X.env).map (·.2) := by rfl) : Js3 X (e :: es) (jCons t u) := weakGs (pgs_cons h1 h2 hs) fun _ _ _ _ => low_jCons
theorem j_sub {i : Expr} {to ti : TE3} {t : TSet3} (ho : E3 X o to) (hi : E3 X i ti) (hs : PSet X (lowSet X.K t))
    (ha : ∀ v, assign (.Subscript o i pos) X.env v = (do
      let ov ← holding [v] (eval o X.env)
      let iv ← holding [v, ov] (eval i X.env)
      standAt pos
      holding [v, ov, iv] (setItem ov iv v)
      release [v, ov, iv] []) := by intro _; rfl) : J3 X (.Subscript o i pos) (jSub to ti t) := weakG (pg_sub ho hi hs ha) fun _ _ _ _ => low_jSub
theorem s_asg {tg : Expr} (he : E3 X e te) (hg : J3 X tg g) (hs : swapsWithSole [tg] e pos.line X.env = pure false := by rfl) (hw : swappedStores [tg] e X.env = pure none := by rfl)
    (h1 : (assignEach [tg] X.env).map (·.2) = [assign tg X.env] := by rfl) : S3 X (.Assign [tg] e pos) (dAsg te g) := weakS (ps_asg he hg hs hw h1) fun _ _ _ => low_asg
theorem s_set (i : Nat) {x : Str} (hN : X.N.Nodup) (he : E3 X e te) (hi : X.N[i]? = some x := by rfl) (hx : Loc X.env.scope x := by first | exact Or.inl rfl | exact Or.inr rfl) (hs : swapsWith e (some (.Name x pos')) pos.line X.env = pure false := by rfl)
    (hf : X.fn x = true ∨ X.env.scope.names.lookup x = some .local := by first | exact .inl rfl | exact .inr rfl | assumption) : S3 X (.Assign [.Name x pos'] e pos) (dAsg te (jName i)) :=
  weakS (ps_set hN hi hx he hs hf) fun D σ H h => by
    obtain ⟨σd, G, q, rs, c, t, f⟩ := h
    exact ⟨σd, G, _, rs, c, t, fun x G1 v H1 r1 c1 l1 t1 => f.nx _ _ _ _ ((rs.le l1).set i r1) c1 l1 t1⟩
theorem s_aug (i : Nat) {x : Str} {op : Operator} {r : R3} (hN : X.N.Nodup) (he : E3 X e te) (ho : Op3 X (inplaceOp op) r) (hi : X.N[i]? = some x := by rfl) (hx : Loc X.env.scope x := by first | exact Or.inl rfl | exact Or.inr rfl)
    (hf : X.fn x = true ∨ X.env.scope.names.lookup x = some .local := by first | exact .inl rfl | exact .inr rfl | assumption) : S3 X (.AugAssign (.Name x pos') op e pos) (dAug i te r) := weakS (ps_aug hN hi hx he ho hf) fun _ _ _ => low_aug
theorem s_while {body : List Stmt} (hc : T3 X c t) (hb : Ss3 X body s1) (hp : PassesOwn (model X.prog X.w) X.A X.env X.xe := by exact PassesOwn.never) : S3 X (.While c body [] pos) (dWhile t s1) := weakS (ps_while hp hc hb) fun _ _ _ => low_while
theorem s_for {tg iter : Expr} {body : List Stmt} {wi : TI3} (hi : I3 X tg iter wi) (hg : J3 X tg g) (hb : Ss3 X body s1) (hc : X.calm = true := by rfl) (hp : PassesOwn (model X.prog X.w) X.A X.env X.xe := by exact PassesOwn.never)
    (hs : ∀ x, foldedSetIterable iter X.env x = pure x := by intro _; rfl) : S3 X (.For tg iter body [] pos) (dFor wi g s1) := weakS (ps_for hp hc hi hg hb hs) fun _ _ _ => low_for
theorem e_fld {C : Addr} {f : Str} (cl : Cls X.K C) (na : NoAttr X.K C f) (he : E3 X e te) (hb : attributeBase e f X.env (eval e X.env) = eval e X.env := by rfl) : E3 X (.Attribute e f pos) (dFld C te f) := weakE (pe_fld he hb) fun _ _ _ => low_fld cl na
theorem s_fld {C : Addr} {f : Str} (cl : Cls X.K C) (na : NoAttr X.K C f) (ha : E3 X o ta) (hv : E3 X value tv) (hs : swapsWith value (some (.Attribute o f pos')) pos.line X.env = pure false := by rfl) : S3 X (.Assign [.Attribute o f pos'] value pos) (dSetF C ta tv f) :=
  weakS (ps_fld ha hv hs) fun _ _ _ => low_setF cl na
theorem s_augF {C : Addr} {f : Str} {op : Operator} {r : R3} (cl : Cls X.K C) (na : NoAttr X.K C f) (ha : E3 X o ta) (hv : E3 X value tv) (ho : Op3 X (inplaceOp op) r) : S3 X (.AugAssign (.Attribute o f tpos) op value pos) (dAugF C ta tv r f) :=
  weakS (ps_fldaug ha hv ho) fun _ _ _ => low_augF cl na
end
theorem low_wRng1 {K : PySem.W.Frag} {σ : L2.St} {H : Hp} {ta : TA3} {R : It → Hp → Prop} (h : lowI K (fun σ G r => ta σ G fun ds G1 => match ds with | [.int j] => (-(2 ^ 62) ≤ j ∧ j < 2 ^ 62) ∧ r ⟨rngD 0 j.toNat, fun _ => True⟩ G1 | _ => False) σ H R) : iRng1 (lowA K ta) σ H R := by
  obtain ⟨σd, G, q, rs, c, t, f⟩ := h
  refine ⟨σd, G, _, rs, c, t, fun ds G1 vs H1 r1 c1 l1 t1 => ?_⟩
  split at t1
  · rename_i j
    obtain ⟨x, r, rfl, rx, rr⟩ := r1.inv_cons
    rw [RelD] at rx
    subst rx
    rw [rr.inv_nil]
    exact ⟨j, rfl, t1.1.1, t1.1.2, f _ _ _ _ itrel_range c1 l1 t1.2⟩
  · exact t1.elim
noncomputable def wRng1 (ta : TA3) : TI3 := fun σ G r => ta σ G fun ds G1 => match ds with | [.int j] => (-(2 ^ 62) ≤ j ∧ j < 2 ^ 62) ∧ r ⟨rngD 0 j.toNat, fun _ => True⟩ G1 | _ => False
noncomputable def wRng2 (ta : TA3) : TI3 := fun σ G r => ta σ G fun ds G1 => match ds with | [.int i, .int j] => (-(2 ^ 62) ≤ i ∧ i < 2 ^ 62 ∧ -(2 ^ 62) ≤ j ∧ j < 2 ^ 62) ∧ r ⟨rngD i (j - i).toNat, fun _ => True⟩ G1 | _ => False
section
variable {X : Cx} {a b e o tg : Expr} {es : List Expr} {p pos apos cpos : Pos} {ta : TE3} {ts : TA3}
theorem i_rng1 (hg : Gl X "range") (hm : X.mg "range" = none) (ha : A3 X [a] ts) (hs : starEach [a] X.env = [(false, eval a X.env)] := by rfl) : I3 X tg (.Call (.Name "range" p) [a] [] pos) (wRng1 ts) := weakI (pi_range1 hg hm ha hs) fun _ _ _ => low_wRng1
/-! ### calls -/
variable {k : Nat} {f C : Addr} {fd : FuncData} {ps : List Str} {S : Sp3} {dds : List D} {dvs : List V} {ds : List Value} {x m : Str}
theorem e_call (F : FnOk X.prog X.w X.K X.mg X.base CX0 k f fd ps (lowSp X.K S)) (hr : Room k X.A) (hg : Gl X x) (hm : X.mg x = some (.ref f)) (hk : PySem.W.keepIn X.K (.ref f) = true) (hb : Binds X.K fd ps ds) (hd : Vals dvs ds) (hdd : ∀ H, RelDs X.K H dds dvs)
    (ha : A3 X (e :: es) ts) (hdb : (x == ("__debug__" : Str)) = false := by decide) (he : starEach (e :: es) X.env = (false, eval e X.env) :: starEach es X.env := by rfl) (hpl : (backTo pos (starEach es X.env)).any (·.1) = false := by rfl) :
    E3 X (.Call (.Name x p) (e :: es) [] pos) (dCall S dds ts) := weakE (pe_call F hr hg hm hk hb hd pass0 ha hdb he hpl) fun _ _ _ => low_call hdd
theorem e_meth {pl : Sem Bool} (he : E3 X o ta) (c : Cls X.K C) (hm : Meth X.K C m f) (F : FnOk X.prog X.w X.K X.mg X.base CX0 k f fd ps (lowSp X.K S)) (hr : Room k X.A) (hb : Binds X.K fd ps ds) (hd : Vals dvs ds) (hdd : ∀ H, RelDs X.K H dds dvs) (ha : A3 X (e :: es) ts)
    (hse : starEach (e :: es) X.env = (false, eval e X.env) :: starEach es X.env := by rfl) (hpl : (backTo pos (starEach es X.env)).any (·.1) = false := by rfl)
    (ht : eval (.Call (.Attribute o m apos) (e :: es) [] pos) X.env = (do
      let ov ← eval o X.env
      standAt apos.atName
      let (f, first) ← holding [ov] (getMethod ov m pl)
      callWith pos f first (backTo pos (starEach (e :: es) X.env)) (backToKw pos (keywordEach [] X.env))) := by rfl) : E3 X (.Call (.Attribute o m apos) (e :: es) [] pos) (dMeth C m S dds ta ts) :=
  weakE (pe_meth he c hm F hr hb hd pass0 ha hse hpl ht) fun _ _ _ => low_meth hdd
theorem e_meth0 {pl : Sem Bool} (he : E3 X o ta) (c : Cls X.K C) (hm : Meth X.K C m f) (F : FnOk X.prog X.w X.K X.mg X.base CX0 k f fd ps (lowSp X.K S)) (hr : Room k X.A) (hb : Binds X.K fd ps ds) (hd : Vals dvs ds) (hdd : ∀ H, RelDs X.K H dds dvs)
    (ht : eval (.Call (.Attribute o m apos) [] [] pos) X.env = (do
      let ov ← eval o X.env
      standAt apos.atName
      let (f, first) ← holding [ov] (getMethod ov m pl)
      callWith pos f first (backTo pos (starEach [] X.env)) (backToKw pos (keywordEach [] X.env))) := by rfl) : E3 X (.Call (.Attribute o m apos) [] [] pos) (dMeth C m S dds ta dNil) :=
  weakE (pe_meth0 he c hm F hr hb hd pass0 ht) fun σ H Q h => by
    obtain ⟨σd, G, q, rs, cc, t, ff⟩ := low_meth (XE := E0) hdd h
    refine ⟨σd, G, q, rs, cc, t, fun d G1 v H1 r1 c1 l1 t1 => ?_⟩
    obtain ⟨a, dx, fs, e1, e2, e3, q3⟩ := ff d G1 v H1 r1 c1 l1 t1
    exact ⟨a, dx, fs, e1, e2, e3, low_nil q3⟩
theorem e_make (M : Mk X.K C f) (F : FnOk X.prog X.w X.K X.mg X.base CX0 k f fd ps (lowSp X.K S)) (hr : Room (k + 1) X.A) (hg : Gl X x) (hm : X.mg x = some (.ref C)) (hb : Binds X.K fd ps ds) (hd : Vals dvs ds) (hdd : ∀ H, RelDs X.K H dds dvs)
    (ha : A3 X (e :: es) ts) (hdb : (x == ("__debug__" : Str)) = false := by decide) (he : starEach (e :: es) X.env = (false, eval e X.env) :: starEach es X.env := by rfl) (hpl : (backTo pos (starEach es X.env)).any (·.1) = false := by rfl) :
    E3 X (.Call (.Name x p) (e :: es) [] pos) (dMake C S dds ts) := weakE (pe_make M F hr hg hm hb hd pass0 ha hdb he hpl) fun _ _ _ => low_make hdd
variable {id T : String} {r : C3} {rm : M3} {name : Str}
theorem e_callB (hc : Call3 X (.builtin id) r) (hg : Gl X x) (hm : X.mg x = none) (hv : bootBuiltins x = some (.builtin id)) (ha : A3 X (e :: es) ts) (hn : x ≠ "__name__" := by decide) (hdb : (x == ("__debug__" : Str)) = false := by decide)
    (he : starEach (e :: es) X.env = (false, eval e X.env) :: starEach es X.env := by rfl) (hpl : (backTo pos (starEach es X.env)).any (·.1) = false := by rfl) : E3 X (.Call (.Name x p) (e :: es) [] pos) (dCB r ts) :=
  weakE (pe_callB hc hg hm hv ha hn hdb he hpl) fun _ _ _ => low_cb
theorem e_callTy (hc : Call3 X (.type T) r) (hg : Gl X x) (hm : X.mg x = none) (hv : bootBuiltins x = some (.type T)) (ha : A3 X (e :: es) ts) (hn : x ≠ "__name__" := by decide) (hdb : (x == ("__debug__" : Str)) = false := by decide)
    (he : starEach (e :: es) X.env = (false, eval e X.env) :: starEach es X.env := by rfl) (hpl : (backTo pos (starEach es X.env)).any (·.1) = false := by rfl) : E3 X (.Call (.Name x p) (e :: es) [] pos) (dCB r ts) :=
  weakE (pe_callTy hc hg hm hv ha hn hdb he hpl) fun _ _ _ => low_cb
end
end L3
namespace L3
open PySem PySem.Spec PyProof.Rows L2
set_option maxHeartbeats 4000000
/-! ### comprehensions -/
noncomputable def innerD (ix : List (Option Nat)) (σ : DSt) : DSt := ix.map fun o => o.bind fun j => (σ[j]?).bind id
noncomputable def compL (ok : Gp → Prop) (g : TG3) (tc : TT3) (te : TE3) (p : Addr) (q : DK) : List D → DSt → Gp → Prop
  | [], _, G => ok G ∧ q (.ref p) G
  | x :: r, σ, G => ok G ∧ g x σ G fun σ2 G2 => tc σ2 G2 fun b G3 =>
    if b = true then te σ2 G3 fun d G4 => (match G4 p with | some (.lst ys) => ys.length < sizeLine ∧ compL ok g tc te p q r σ2 (gup G4 p (.lst (ys ++ [d]))) | _ => False)
    else compL ok g tc te p q r σ2 G3
noncomputable def dComp (ix : List (Option Nat)) (wi : TI3) (g : TG3) (tc : TT3) (te : TE3) : TE3 := fun σ G q => wi σ G fun it G1 => ∀ p, G1 p = none → compL it.ok g tc te p q it.items (innerD ix σ) (gup G1 p (.lst []))
theorem RelSt.inn {K : PySem.W.Frag} {H : Hp} {σd : DSt} {σ : L2.St} (h : RelSt K H σd σ) (ix : List (Option Nat)) : RelSt K H (innerD ix σd) (L2.inner ix σ) := by
  refine ⟨by unfold innerD L2.inner; rw [List.length_map, List.length_map], fun i d e => ?_⟩
  unfold innerD at e
  unfold L2.inner
  rw [List.getElem?_map] at e ⊢
  cases ho : ix[i]? with
  | none => rw [ho] at e; cases e
  | some o =>
    rw [ho] at e
    cases o with
    | none => cases e
    | some j =>
      have e : (σd[j]?).bind id = some d := Option.some.inj e
      have e : σd[j]? = some (some d) := by
        cases hs : σd[j]? with
        | none => rw [hs] at e; cases e
        | some w => rw [hs] at e; cases e; rfl
      obtain ⟨v, hv, r⟩ := h.2 j d e
      exact ⟨v, by show some ((σ[j]?).bind id) = _; rw [hv]; rfl, r⟩
theorem low_comp {K : PySem.W.Frag} {ix : List (Option Nat)} {wi : TI3} {g : TG3} {tc : TT3} {te : TE3} {σ : L2.St} {H : Hp} {Q : VK} (h : lowE K (dComp ix wi g tc te) σ H Q) : tComp ix (lowI K wi) (lowG K g) (lowT K tc) (lowE K te) σ H Q := by
  obtain ⟨σd, G, q, rs, cc, t, f⟩ := h
  refine ⟨σd, G, _, rs, cc, t, fun it J G1 H1 ir c1 l1 t1 => ?_⟩
  intro p hp
  have t1 := t1 p (c1.fresh hp)
  have c2 : Con K (gup G1 p (.lst [])) (upd H1 p (.lst [])) := c1.lstNew hp .nil
  have l2 : Le H1 (upd H1 p (.lst [])) := Le.fresh hp
  refine ⟨fun i m σ' H' => ∃ σd' G', Le (upd H1 p (.lst [])) H' ∧ RelSt K H' σd' σ' ∧ Con K G' H' ∧ i + m = it.items.length ∧ compL it.ok g tc te p q (it.items.drop i) σd' G',
    ⟨it.items.length, innerD ix σd, _, Le.refl _, (rs.le (l1.trans l2)).inn ix, c2, by omega, by rw [List.drop_zero]; exact t1⟩, ?_⟩
  rintro i m σ2 H2 ⟨σd2, G2, l3, rs2, c2, e2, t2⟩
  have l12 : Le H1 H2 := l2.trans l3
  by_cases hi : i < it.items.length
  · rw [List.drop_eq_getElem_cons hi] at t2
    obtain ⟨ok2, t2⟩ := t2
    refine .inr ⟨ir.go i G2 H2 l12 c2 ok2 hi, fun σ' H' => ∃ σd' G', Le (upd H1 p (.lst [])) H' ∧ RelSt K H' σd' σ' ∧ Con K G' H' ∧ compL it.ok g tc te p q (it.items.drop (i + 1)) σd' G', ?_, ?_⟩
    · rintro σ' H' ⟨σd', G', a1, a2, a3, a4⟩
      exact ⟨m - 1, by omega, σd', G', a1, a2, a3, by omega, a4⟩
    · intro x H3 y
      obtain ⟨c3, l4, e, he, r3⟩ := ir.yld i G2 H2 x H3 l12 c2 ok2 hi y
      rw [List.getElem?_eq_getElem hi] at he
      cases he
      refine ⟨_, σd2, G2, _, r3, rs2.le l4, c3, t2, fun σd4 G4 σ4 H4 rs4 c4 l5 t4 => ?_⟩
      refine ⟨σd4, G4, _, rs4, c4, t4, fun b G5 H5 c5 l6 t5 => ?_⟩
      cases b with
      | false =>
        rw [if_neg Bool.false_ne_true] at t5 ⊢
        exact ⟨σd4, G5, l3.trans (l4.trans (l5.trans l6)), rs4.le l6, c5, t5⟩
      | true =>
        rw [if_pos rfl] at t5 ⊢
        refine ⟨σd4, G5, _, rs4.le l6, c5, t5, fun d G6 v H6 r6 c6 l7 t6 => ?_⟩
        split at t6
        · rename_i ys eg
          obtain ⟨xs, ex, rx⟩ := c6 p _ eg
          have l8 := Le.lst (ys := xs ++ [v]) ex
          exact ⟨xs, ex, by rw [← rx.length]; exact t6.1, σd4, _, l3.trans (l4.trans (l5.trans (l6.trans (l7.trans l8)))), rs4.le (l6.trans (l7.trans l8)), c6.lstSet ex (rx.append (.cons r6 .nil)), t6.2⟩
        · exact t6.elim
  · rw [List.drop_eq_nil_of_le (by omega)] at t2
    exact .inl ⟨ir.stop i G2 H2 l12 c2 t2.1 (by omega), f _ _ _ _ RelD.refI c2 (l1.trans l12) t2.2⟩
noncomputable def dYes : TT3 := fun _ G q => q true G
section
variable {X : Cx} {elt tg iter : Expr} {ifs : List Expr} {scope : Scope} {pos : Pos} {N' : List Str} {ix : List (Option Nat)} {wi : TI3} {g : TG3} {tc : TT3} {te : TE3}
theorem ifs_nil : Ifs3 X [] dYes := weakIfs pifs_nil fun σ H Q h => by
  obtain ⟨σd, G, q, rs, c, t, f⟩ := h
  exact f _ _ _ c (Le.refl H) t
theorem ifs_one {c : Expr} (h : T3 X c tc) : Ifs3 X [c] tc := pifs_one h
theorem e_comp (B : BlkOk X N' ix scope) (hw : I3 X tg iter wi) (hg : ∀ C s H fp, J3 (cxComp X N' scope C s H fp) tg g) (hi : ∀ C s H fp, Ifs3 (cxComp X N' scope C s H fp) ifs tc) (he : ∀ C s H fp, E3 (cxComp X N' scope C s H fp) elt te)
    (hc : X.calm = true := by rfl) (hs : ∀ x, foldedSetIterable iter X.env x = pure x := by intro _; rfl) : E3 X (.ListComp elt [⟨tg, iter, ifs, 0⟩] scope pos) (dComp ix wi g tc te) :=
  weakE (pe_comp (g := lowG X.K g) (tc := lowT X.K tc) (te := lowE X.K te) B hc hw hg hi he hs) fun _ _ _ => low_comp
theorem s_setC (i : Nat) {y : Str} {py spos : Pos} (hN : X.N.Nodup) (B : BlkOk X N' ix scope) (hw : I3 X tg iter wi) (hg : ∀ C s H fp, J3 (cxComp X N' scope C s H fp) tg g) (hi : ∀ C s H fp, Ifs3 (cxComp X N' scope C s H fp) ifs tc) (he : ∀ C s H fp, E3 (cxComp X N' scope C s H fp) elt te)
    (hy : X.N[i]? = some y := by rfl) (hl : Loc X.env.scope y := by first | exact Or.inl rfl | exact Or.inr rfl)
    (hc : X.calm = true := by rfl) (hsw : swapsWith (.ListComp elt [⟨tg, iter, ifs, 0⟩] scope pos) (some (.Name y py)) spos.line X.env = pure true := by rfl)
    (hf : X.fn y = true ∨ X.env.scope.names.lookup y = some .local := by first | exact .inl rfl | exact .inr rfl | assumption)
    (hs : ∀ x, foldedSetIterable iter X.env x = pure x := by intro _; rfl) : S3 X (.Assign [.Name y py] (.ListComp elt [⟨tg, iter, ifs, 0⟩] scope pos) spos) (dAsg (dComp ix wi g tc te) (jName i)) :=
  weakS (ps_setC (g := lowG X.K g) (tc := lowT X.K tc) (te := lowE X.K te) B hc hN hy hl hw hg hi he hsw hf hs) fun D σ H h => by
    obtain ⟨σd, G, d, rs, c, t, f⟩ := h
    exact low_comp (K := X.K) ⟨σd, G, _, rs, c, t, fun x G1 v H1 r1 c1 l1 t1 => f.nx _ _ _ _ ((rs.le l1).set i r1) c1 l1 t1⟩
end
end L3

namespace L3
open PySem PySem.Spec PyProof.Rows L2
set_option maxHeartbeats 4000000
/-! ### operations, by the values' kinds -/
noncomputable def xAdd : R3 := fun x y G q => match x, y with
  | .int i, .int j => q (.int (i + j)) G
  | .str a, .str b => a.length + b.length ≤ sizeLine ∧ q (.str (a ++ b)) G
  | .tup a, .tup b => a ≠ [] ∧ a.length + b.length ≤ sizeLine ∧ q (.tup (a ++ b)) G
  | .ref a, .ref b => (match G a, G b with
    | some (.lst xs), some (.lst ys) => xs.length + ys.length ≤ sizeLine ∧ ∀ p, G p = none → q (.ref p) (gup G p (.lst (xs ++ ys)))
    | _, _ => False)
  | _, _ => False
noncomputable def xInt (f : Int → Int → Int) : R3 := fun x y G q => match x, y with | .int i, .int j => q (.int (f i j)) G | _, _ => False
noncomputable def xIntC (C : Int → Int → Prop) (f : Int → Int → Int) : R3 := fun x y G q => match x, y with | .int i, .int j => C i j ∧ q (.int (f i j)) G | _, _ => False
noncomputable def xSub : R3 := xInt fun i j => i - j
noncomputable def xMul : R3 := fun x y G q => match x, y with
  | .int i, .int j => CMul i j ∧ q (.int (i * j)) G
  | .ref a, .int k => (match G a with
    | some (.lst xs) => (-(2 ^ 63) ≤ k ∧ k < 2 ^ 63 ∧ xs.length * k.toNat ≤ sizeLine) ∧ ∀ p, G p = none → q (.ref p) (gup G p (.lst (List.replicate k.toNat xs).flatten))
    | _ => False)
  | _, _ => False
noncomputable def CDivL (_ j : Int) : Prop := 0 < j ∧ j < 18446744073709551616
noncomputable def xDiv : R3 := xIntC CDivL fun i j => i / j
noncomputable def xMod : R3 := xIntC (fun _ j => 0 < j) fun i j => i % j
noncomputable def xPow : R3 := xIntC CPow fun i j => i ^ j.toNat
noncomputable def xShl : R3 := xIntC CPow fun i j => i * 2 ^ j.toNat
noncomputable def xShr : R3 := xIntC (fun _ j => 0 ≤ j) fun i j => i / 2 ^ j.toNat
noncomputable def xAnd : R3 := xInt Builtin.bitAnd
noncomputable def xOr : R3 := xInt Builtin.bitOr
noncomputable def xXor : R3 := xInt Builtin.bitXor
noncomputable def xLt : R3 := fun x y G q => match x, y with | .int i, .int j => q (.bl (decide (i < j))) G | .str a, .str b => q (.bl (decide (a.cps.toList < b.cps.toList))) G | _, _ => False
noncomputable def xLe : R3 := fun x y G q => match x, y with | .int i, .int j => q (.bl (decide (i ≤ j))) G | _, _ => False
noncomputable def xGt : R3 := fun x y G q => match x, y with | .int i, .int j => q (.bl (decide (j < i))) G | _, _ => False
noncomputable def xGe : R3 := fun x y G q => match x, y with | .int i, .int j => q (.bl (decide (j ≤ i))) G | _, _ => False
section
variable {X : Cx} {K : PySem.W.Frag} {H : Hp}
theorem RelD.int_inv {i : Int} {v : V} (h : RelD K H (.int i) v) : v = .int i := by rw [RelD] at h; exact h
theorem RelD.str_inv {i : Str} {v : V} (h : RelD K H (.str i) v) : v = .str i := by rw [RelD] at h; exact h
theorem RelD.non_inv {v : V} (h : RelD K H .non v) : v = .non := by rw [RelD] at h; exact h
theorem RelD.tup_inv {ds : List D} {v : V} (h : RelD K H (.tup ds) v) : ∃ a xs, v = .ref a ∧ SqT K H a xs ∧ RelDs K H ds xs := by rw [RelD] at h; exact h
theorem RelD.intI {i : Int} : RelD K H (.int i) (.int i) := by rw [RelD]
theorem RelD.strI {i : Str} : RelD K H (.str i) (.str i) := by rw [RelD]
theorem RelD.blI {i : Bool} : RelD K H (.bl i) (.bl i) := by rw [RelD]
theorem RelD.nonI : RelD K H .non .non := by rw [RelD]
theorem x_int {f : Value → Value → Sem Value} {g : Int → Int → Int} (h : OpR X f (rI0 fun i j => .int (g i j))) : Op3 X f (xInt g) := weakOp h fun x y H Q ⟨d, e, G, q, r1, r2, c, t, f⟩ => by
  unfold xInt at t
  split at t
  · exact ⟨_, _, r1.int_inv, r2.int_inv, f _ _ _ _ RelD.intI c (Le.refl H) t⟩
  · exact t.elim
theorem x_intC {f : Value → Value → Sem Value} {C : Int → Int → Prop} {g : Int → Int → Int} (h : OpR X f (rI C fun i j => .int (g i j))) : Op3 X f (xIntC C g) := weakOp h fun x y H Q ⟨d, e, G, q, r1, r2, c, t, f⟩ => by
  unfold xIntC at t
  split at t
  · exact ⟨_, _, r1.int_inv, r2.int_inv, t.1, f _ _ _ _ RelD.intI c (Le.refl H) t.2⟩
  · exact t.elim
theorem x_sub : Op3 X (binaryOp .Sub) xSub := x_int op_sub
theorem op_fdivL : OpR X (binaryOp .FloorDiv) (rI CDivL fun i j => .int (i / j)) := opI fun i j _ _ _ _ _ hc q => by
  have hl : j.natAbs.log2 < 9000 := by
    have h1 := hc.1
    have h2 := hc.2
    have hn : j.natAbs ≠ 0 := by omega
    have : j.natAbs.log2 < 64 := (Nat.log2_lt hn).mpr (by omega)
    omega
  refine floordiv_int (by have := hc.1; omega) ?_ (.inl (PyProof.noPylong_of_log2 hl))
  rw [Int.fdiv_eq_ediv_of_nonneg i (by have := hc.1; omega)]
  exact q
theorem x_div : Op3 X (binaryOp .FloorDiv) xDiv := x_intC op_fdivL
theorem x_mod : Op3 X (binaryOp .Mod) xMod := x_intC op_mod
theorem x_pow : Op3 X (binaryOp .Pow) xPow := x_intC op_pow
theorem x_shl : Op3 X (binaryOp .LShift) xShl := x_intC op_shl
theorem x_shr : Op3 X (binaryOp .RShift) xShr := x_intC op_shr
theorem x_and : Op3 X (binaryOp .BitAnd) xAnd := x_int op_and
theorem x_xor : Op3 X (binaryOp .BitXor) xXor := x_int op_xor
theorem x_isub : Op3 X (inplaceOp .Sub) xSub := x_int iop_sub
theorem x_iadd : Op3 X (inplaceOp .Add) (xInt fun i j => i + j) := x_int iop_add
theorem x_add : Op3 X (binaryOp .Add) xAdd := weakOp (op_add.or (op_add_str.or (op_catT.or op_cat))) <| by
  rintro x y H Q ⟨d, e, G, q, r1, r2, c, t, f⟩
  unfold xAdd at t
  split at t
  · exact .inl ⟨_, _, r1.int_inv, r2.int_inv, f _ _ _ _ RelD.intI c (Le.refl H) t⟩
  · exact .inr (.inl ⟨_, _, r1.str_inv, r2.str_inv, t.1, f _ _ _ _ RelD.strI c (Le.refl H) t.2⟩)
  · obtain ⟨a, xs, rfl, s1, q1⟩ := r1.tup_inv
    obtain ⟨b, ys, rfl, s2, q2⟩ := r2.tup_inv
    refine .inr (.inr (.inl ⟨a, b, xs, ys, rfl, rfl, s1, s2, fun z => t.1 ?_, by rw [← q1.length, ← q2.length]; exact t.2.1, fun z => ?_, fun _ p hp => ?_⟩))
    · have := q1.length; rw [z] at this; exact List.eq_nil_of_length_eq_zero this
    · refine f (.tup _) G (.ref a) _ ?_ c (Le.refl _) t.2.2
      rw [RelD]
      subst z
      have e : ∀ {bs : List D}, RelDs X.K H bs [] → bs = [] := fun h => List.eq_nil_of_length_eq_zero h.length
      rw [e q2, List.append_nil]
      exact ⟨a, _, rfl, s1, q1⟩
    · refine f (.tup _) G (.ref p) _ ?_ (c.side hp) (Le.fresh hp) t.2.2
      rw [RelD]
      exact ⟨p, _, rfl, SqT.of upd_same, RelDs.le (Le.fresh hp) (q1.append q2)⟩
  · rename_i a b
    split at t
    · rename_i xs ys e1 e2
      obtain ⟨vs, h1, q1⟩ := c _ _ e1
      obtain ⟨ws, h2, q2⟩ := c _ _ e2
      exact .inr (.inr (.inr ⟨a, b, vs, ws, r1.ref_inv, r2.ref_inv, h1, h2, by rw [← q1.length, ← q2.length]; exact t.1, fun p hp => f _ _ _ _ RelD.refI (c.lstNew hp (q1.append q2)) (Le.fresh hp) (t.2 p (c.fresh hp))⟩))
    · exact t.elim
  · exact t.elim
theorem x_mul : Op3 X (binaryOp .Mult) xMul := weakOp (op_mul.or op_rep) <| by
  rintro x y H Q ⟨d, e, G, q, r1, r2, c, t, f⟩
  unfold xMul at t
  split at t
  · exact .inl ⟨_, _, r1.int_inv, r2.int_inv, t.1, f _ _ _ _ RelD.intI c (Le.refl H) t.2⟩
  · rename_i a k
    split at t
    · rename_i xs e1
      obtain ⟨vs, h1, q1⟩ := c _ _ e1
      refine .inr ⟨a, k, vs, r1.ref_inv, r2.int_inv, h1, t.1.1, t.1.2.1, by rw [← q1.length]; exact t.1.2.2, ?_⟩
      intro p hp
      exact f _ _ _ _ RelD.refI (c.lstNew hp (q1.rep _)) (Le.fresh hp) (t.2 p (c.fresh hp))
    · exact t.elim
  · exact t.elim
theorem x_cmpI {f : Value → Value → Sem Value} {g : Int → Int → Bool} (h : OpR X f (rI0 fun i j => .bl (g i j))) : Op3 X f (fun x y G q => match x, y with | .int i, .int j => q (.bl (g i j)) G | _, _ => False) := weakOp h fun x y H Q ⟨d, e, G, q, r1, r2, c, t, f⟩ => by
  dsimp only at t
  split at t
  · exact ⟨_, _, r1.int_inv, r2.int_inv, f _ _ _ _ RelD.blI c (Le.refl H) t⟩
  · exact t.elim
theorem x_gt : Op3 X (compareOp .Gt) xGt := x_cmpI op_gt
theorem x_ge : Op3 X (compareOp .GtE) xGe := x_cmpI op_ge
theorem x_lt : Op3 X (compareOp .Lt) xLt := weakOp (op_lt.or op_lt_str) <| by
  rintro x y H Q ⟨d, e, G, q, r1, r2, c, t, f⟩
  unfold xLt at t
  split at t
  · exact .inl ⟨_, _, r1.int_inv, r2.int_inv, f _ _ _ _ RelD.blI c (Le.refl H) t⟩
  · exact .inr ⟨_, _, r1.str_inv, r2.str_inv, f _ _ _ _ RelD.blI c (Le.refl H) t⟩
  · exact t.elim
theorem RelD.not_non {d : D} {v : V} (h : RelD K H d v) (n : d ≠ .non) : v ≠ .non := by
  cases d with
  | non => exact absurd rfl n
  | bl _ => rw [h.bl_inv]; exact fun z => nomatch z
  | int _ => rw [h.int_inv]; exact fun z => nomatch z
  | str _ => rw [h.str_inv]; exact fun z => nomatch z
  | ref _ => rw [h.ref_inv]; exact fun z => nomatch z
  | ty _ => rw [RelD] at h; rw [h]; exact fun z => nomatch z
  | tup _ => obtain ⟨a, xs, e, _⟩ := h.tup_inv; rw [e]; exact fun z => nomatch z
noncomputable def xNeg : U3 := fun x G q => match x with | .int i => q (.int (-i)) G | _ => False
theorem x_neg : UnR X (unaryOp .USub) (lowU X.K xNeg) := weakUn un_neg <| by
  rintro x H Q ⟨d, G, q, r1, c, t, f⟩
  unfold xNeg at t
  split at t
  · exact ⟨_, r1.int_inv, f _ _ _ _ RelD.intI c (Le.refl H) t⟩
  · exact t.elim
/-! ### items, slices, stores -/
noncomputable def xIx : R3 := fun x y G q => match x, y with
  | .tup ds, .int i => (match atI ds i with | some d => q d G | none => False)
  | .ref a, .int i => (match seqOf (G a) with | some ds => (match atI ds i with | some d => q d G | none => False) | none => False)
  | .str z, .int i => z.length ≤ sizeLine ∧ (match atI z.cps.toList i with | some c => q (.str ⟨#[c]⟩) G | none => False)
  | _, _ => False
theorem RelDs.atI {ds : List D} {xs : List V} {i : Int} {d : D} (h : RelDs K H ds xs) (e : L2.atI ds i = some d) : ∃ v, L2.atI xs i = some v ∧ RelD K H d v := by
  unfold L2.atI at e ⊢
  rw [← h.length]
  cases hj : ixN ds.length i with
  | none => rw [hj] at e; cases e
  | some j =>
    rw [hj] at e
    exact h.get e
theorem x_ix : IxR X (lowR X.K xIx) := weakIx ix_seq <| by
  rintro x y H Q ⟨d, e, G, q, r1, r2, c, t, f⟩
  unfold xIx at t
  split at t
  · rename_i ds i
    obtain ⟨a, xs, rfl, s1, q1⟩ := r1.tup_inv
    split at t
    · rename_i w ew
      obtain ⟨v, hv, rv⟩ := q1.atI ew
      exact .inr (.inl ⟨a, xs, i, v, rfl, r2.int_inv, s1, hv, f _ _ _ _ rv c (Le.refl H) t⟩)
    · exact t.elim
  · rename_i a i
    split at t
    · rename_i ds es
      obtain ⟨xs, s1, q1⟩ := sql_of c es
      split at t
      · rename_i w ew
        obtain ⟨v, hv, rv⟩ := q1.atI ew
        exact .inl ⟨a, xs, i, v, r1.ref_inv, r2.int_inv, s1, hv, f _ _ _ _ rv c (Le.refl H) t⟩
      · exact t.elim
    · exact t.elim
  · rename_i z i
    obtain ⟨hz, t⟩ := t
    split at t
    · rename_i w ew
      exact .inr (.inr ⟨z, i, w, r1.str_inv, r2.int_inv, hz, ew, f _ _ _ _ RelD.strI c (Le.refl H) t⟩)
    · exact t.elim
  · exact t.elim
noncomputable def cutD {α : Type} (xs : List α) (lo hi : Option Int) : List α := (xs.drop (HT.sIx xs.length 0 lo)).take (HT.sIx xs.length xs.length hi - HT.sIx xs.length 0 lo)
theorem RelDs.cut {ds : List D} {xs : List V} (h : RelDs K H ds xs) (lo hi : Option Int) : RelDs K H (cutD ds lo hi) (cutV xs lo hi) := by
  unfold cutD cutV
  rw [h.length]
  exact (h.drop _).take _
noncomputable def xSet : TSet3 := fun o i v G q => match o, i with
  | .ref a, .int k => (match G a with | some (.lst ds) => (match ixN ds.length k with | some j => q (gup G a (.lst (ds.set j v))) | none => False) | _ => False)
  | _, _ => False
theorem x_set : PSet X (lowSet X.K xSet) := weakSet set_list <| by
  rintro o i v H Q ⟨d, e, x, G, q, r1, r2, r3, c, t, f⟩
  unfold xSet at t
  split at t
  · rename_i a k
    split at t
    · rename_i ds e1
      obtain ⟨xs, h1, q1⟩ := c _ _ e1
      split at t
      · rename_i j ej
        exact ⟨a, xs, k, j, r1.ref_inv, r2.int_inv, h1, by rw [← q1.length]; exact ej, f _ _ (c.lstSet h1 (q1.set r3 j)) (Le.lst h1) t⟩
      · exact t.elim
    · exact t.elim
  · exact t.elim
end
end L3

namespace L3
open PySem PySem.Spec PyProof.Rows L2
set_option maxHeartbeats 4000000
/-! ### == of anything: by what the values are, all lists taken in -/
inductive Sn where
  | non | bl (b : Bool) | int (i : Int) | str (x : Str) | tup (xs : List Sn) | lst (xs : List Sn)
/-- the value as it stands at G, by n levels -/
noncomputable def snap (G : Gp) : Nat → D → Option Sn
  | _, .non => some .non
  | _, .bl b => some (.bl b)
  | _, .int i => some (.int i)
  | _, .str x => some (.str x)
  | n + 1, .tup ds => (ds.mapM (snap G n)).map .tup
  | n + 1, .ref a => (seqOf (G a)).bind fun ds => (ds.mapM (snap G n)).map .lst
  | _, _ => none
noncomputable def flatS : Sn → Bool
  | .non => true | .bl _ => true | .int _ => true | .str _ => true | _ => false
noncomputable def eqF : Sn → Sn → Bool
  | .non, .non => true
  | .bl a, .bl b => a == b
  | .bl a, .int b => (if a then 1 else 0) == b
  | .int a, .bl b => a == (if b then 1 else 0)
  | .int a, .int b => a == b
  | .str a, .str b => a == b
  | _, _ => false
/-- == by n levels: none where it is not told -/
noncomputable def eqN : Nat → Sn → Sn → Option Bool
  | n + 1, .tup xs, .tup ys => if xs.length = ys.length then ((xs.zip ys).mapM fun p => eqN n p.1 p.2).map fun bs => bs.all id else none
  | n + 1, .lst xs, .lst ys => if xs.length = ys.length then ((xs.zip ys).mapM fun p => eqN n p.1 p.2).map fun bs => bs.all id else some false
  | _, x, y => if (flatS x && flatS y) = true then some (eqF x y) else none

theorem mapM_some {α β : Type} {f : α → Option β} : ∀ {xs : List α} {ys : List β}, xs.mapM f = some ys → xs.length = ys.length ∧ ∀ (i : Nat) x, xs[i]? = some x → ∃ y, ys[i]? = some y ∧ f x = some y
  | [], ys, h => by
    have : ys = [] := by simpa using h.symm
    subst this
    exact ⟨rfl, fun i x e => by simp at e⟩
  | x :: xs, ys, h => by
    rw [List.mapM_cons] at h
    cases hx : f x with
    | none => rw [hx] at h; cases h
    | some y =>
      rw [hx] at h
      cases hr : xs.mapM f with
      | none => rw [hr] at h; cases h
      | some r =>
        rw [hr] at h
        have e : y :: r = ys := Option.some.inj h
        subst e
        obtain ⟨h1, h2⟩ := mapM_some hr
        refine ⟨by simp [h1], fun i z e => ?_⟩
        cases i with
        | zero => cases (show x = z from Option.some.inj e); exact ⟨y, rfl, hx⟩
        | succ i => exact h2 i z e
theorem all_of {bs : List Bool} {e : Nat → Bool} {n : Nat} (hl : bs.length = n) (h : ∀ (i : Nat) b, bs[i]? = some b → e i = b) : (List.range n).all e = bs.all id := by
  rw [Bool.eq_iff_iff, List.all_eq_true, List.all_eq_true]
  constructor
  · intro q b hb
    obtain ⟨i, hi, eb⟩ := List.mem_iff_getElem.mp hb
    have := q i (List.mem_range.mpr (by omega))
    rw [h i b (by rw [List.getElem?_eq_getElem hi, eb])] at this
    exact this
  · intro q i hi
    have hi := List.mem_range.mp hi
    rw [h i bs[i] (List.getElem?_eq_getElem (by omega))]
    exact q _ (List.getElem_mem _)
section
variable {X : Cx} {pins : List (Addr × Obj)} {σ : L2.St} {H : Hp} {s : Shared} {G : Gp}
theorem flat_of {n : Nat} {d : D} {sd : Sn} {x : V} {u : Value} (h : snap G n d = some sd) (fl : flatS sd = true) (r : RelD X.K H d x) : flatV x = true ∧ ∀ (e : D) (se : Sn) (y : V), snap G n e = some se → flatS se = true → RelD X.K H e y → eqV x y = eqF sd se := by
  have key : ∀ (d : D) (sd : Sn) (x : V), snap G n d = some sd → flatS sd = true → RelD X.K H d x → (sd = .non ∧ x = .non) ∨ (∃ b, sd = .bl b ∧ x = .bl b) ∨ (∃ i, sd = .int i ∧ x = .int i) ∨ (∃ z, sd = .str z ∧ x = .str z) := by
    intro d sd x h fl r
    cases d with
    | non => have e : Sn.non = sd := by cases n <;> exact Option.some.inj h
             subst e; exact .inl ⟨rfl, r.non_inv⟩
    | bl b => have e : Sn.bl b = sd := by cases n <;> exact Option.some.inj h
              subst e; exact .inr (.inl ⟨b, rfl, r.bl_inv⟩)
    | int b => have e : Sn.int b = sd := by cases n <;> exact Option.some.inj h
               subst e; exact .inr (.inr (.inl ⟨b, rfl, r.int_inv⟩))
    | str b => have e : Sn.str b = sd := by cases n <;> exact Option.some.inj h
               subst e; exact .inr (.inr (.inr ⟨b, rfl, r.str_inv⟩))
    | tup ds =>
      cases n with
      | zero => cases h
      | succ n =>
        have h : (ds.mapM (snap G n)).map Sn.tup = some sd := h
        obtain ⟨a, _, rfl⟩ := Option.map_eq_some_iff.mp h
        cases fl
    | ref a =>
      cases n with
      | zero => cases h
      | succ n =>
        have h : ((seqOf (G a)).bind fun ds => (ds.mapM (snap G n)).map Sn.lst) = some sd := h
        obtain ⟨ds, _, h⟩ := Option.bind_eq_some_iff.mp h
        obtain ⟨a, _, rfl⟩ := Option.map_eq_some_iff.mp h
        cases fl
    | ty t => cases n <;> cases h
  rcases key d sd x h fl r with ⟨rfl, rfl⟩ | ⟨b, rfl, rfl⟩ | ⟨b, rfl, rfl⟩ | ⟨b, rfl, rfl⟩ <;> refine ⟨rfl, fun e se y h' fl' r' => ?_⟩ <;>
    rcases key e se y h' fl' r' with ⟨rfl, rfl⟩ | ⟨c, rfl, rfl⟩ | ⟨c, rfl, rfl⟩ | ⟨c, rfl, rfl⟩ <;> rfl
theorem snap_tup {n : Nat} {ds : List D} {sd : Sn} (h : snap G n (.tup ds) = some sd) : ∃ m ss, n = m + 1 ∧ sd = .tup ss ∧ ds.mapM (snap G m) = some ss := by
  cases n with
  | zero => cases h
  | succ n =>
    obtain ⟨ss, h1, rfl⟩ := Option.map_eq_some_iff.mp (show (ds.mapM (snap G n)).map Sn.tup = some sd from h)
    exact ⟨n, ss, rfl, rfl, h1⟩
theorem snap_ref {n : Nat} {a : Addr} {sd : Sn} (h : snap G n (.ref a) = some sd) : ∃ m ds ss, n = m + 1 ∧ sd = .lst ss ∧ seqOf (G a) = some ds ∧ ds.mapM (snap G m) = some ss := by
  cases n with
  | zero => cases h
  | succ n =>
    obtain ⟨ds, h0, h⟩ := Option.bind_eq_some_iff.mp (show ((seqOf (G a)).bind fun ds => (ds.mapM (snap G n)).map Sn.lst) = some sd from h)
    obtain ⟨ss, h1, rfl⟩ := Option.map_eq_some_iff.mp h
    exact ⟨n, ds, ss, rfl, rfl, h0, h1⟩
/-- one value read twice -/
theorem eqN_flat {n : Nat} {x y : Sn} (hx : flatS x = true) : eqN n x y = if (flatS x && flatS y) = true then some (eqF x y) else none := by
  cases x with
  | tup _ => cases hx
  | lst _ => cases hx
  | non => cases n <;> rfl
  | bl _ => cases n <;> rfl
  | int _ => cases n <;> rfl
  | str _ => cases n <;> rfl
theorem eqN_some {n : Nat} {x y : Sn} {b : Bool} (h : eqN n x y = some b) (fl : ¬ (flatS x && flatS y) = true) : (∃ m xs ys, n = m + 1 ∧ x = .tup xs ∧ y = .tup ys) ∨ (∃ m xs ys, n = m + 1 ∧ x = .lst xs ∧ y = .lst ys) := by
  unfold eqN at h
  split at h
  · exact .inl ⟨_, _, _, rfl, rfl, rfl⟩
  · exact .inr ⟨_, _, _, rfl, rfl, rfl⟩
  · rw [if_neg fl] at h; cases h
theorem snap_isT {n : Nat} {d : D} {ss : List Sn} (h : snap G n d = some (.tup ss)) : ∃ ds, d = .tup ds := by
  cases d with
  | tup ds => exact ⟨ds, rfl⟩
  | ref a => obtain ⟨_, _, _, _, e', _⟩ := snap_ref h; cases e'
  | _ => cases n <;> cases h
theorem snap_isL {n : Nat} {d : D} {ss : List Sn} (h : snap G n d = some (.lst ss)) : ∃ a, d = .ref a := by
  cases d with
  | ref a => exact ⟨a, rfl⟩
  | tup ds => obtain ⟨_, _, _, e', _⟩ := snap_tup h; cases e'
  | _ => cases n <;> cases h
theorem same_flat {n : Nat} {d e : D} {x : V} {sd se : Sn} {b : Bool} (r1 : RelD X.K H d x) (r2 : RelD X.K H e x) (h1 : snap G n d = some sd) (h2 : snap G n e = some se) (hb : eqN n sd se = some b) (fl : (flatS sd && flatS se) = true) : b = true := by
  rw [Bool.and_eq_true] at fl
  have z := hb
  rw [eqN_flat fl.1, if_pos (by rw [fl.1, fl.2]; rfl)] at z
  obtain ⟨fx, k⟩ := flat_of (u := Value.none) h1 fl.1 r1
  rw [← Option.some.inj z, ← k e se x h2 fl.2 r2]
  cases x with
  | non => rfl
  | bl b => exact beq_self_eq_true b
  | int i => exact beq_self_eq_true i
  | str w => exact beq_self_eq_true w
  | _ => cases fx
theorem same_eq (I : Inv X pins σ H s) (c : Con X.K G H) : ∀ (n : Nat) (d e : D) (x : V) (sd se : Sn) (b : Bool), RelD X.K H d x → RelD X.K H e x → snap G n d = some sd → snap G n e = some se → eqN n sd se = some b → b = true := by
  intro n
  induction n with
  | zero =>
    intro d e x sd se b r1 r2 h1 h2 hb
    by_cases fl : (flatS sd && flatS se) = true
    · exact same_flat r1 r2 h1 h2 hb fl
    · rcases eqN_some hb fl with ⟨_, _, _, z, _⟩ | ⟨_, _, _, z, _⟩ <;> cases z
  | succ m ih =>
    intro d e x sd se b r1 r2 h1 h2 hb
    by_cases fl : (flatS sd && flatS se) = true
    · exact same_flat r1 r2 h1 h2 hb fl
    have items : ∀ (ds es : List D) (xs : List V) (ss ts : List Sn) (bs : List Bool), RelDs X.K H ds xs → RelDs X.K H es xs → ds.mapM (snap G m) = some ss → es.mapM (snap G m) = some ts → ((ss.zip ts).mapM fun p => eqN m p.1 p.2) = some bs → bs.all id = true := by
      intro ds es xs ss ts bs q1 q2 k1 k2 kb
      rw [List.all_eq_true]
      intro b hb
      obtain ⟨i, hi, eb⟩ := List.mem_iff_getElem.mp hb
      obtain ⟨l1, f1⟩ := mapM_some k1
      obtain ⟨l2, f2⟩ := mapM_some k2
      obtain ⟨l3, f3⟩ := mapM_some kb
      have hz : (ss.zip ts).length = min ss.length ts.length := List.length_zip
      have e1 := q1.length
      have e2 := q2.length
      have hds : i < ds.length := by omega
      have hes : i < es.length := by omega
      obtain ⟨y1, g1, s1⟩ := f1 i ds[i] (List.getElem?_eq_getElem hds)
      obtain ⟨y2, g2, s2⟩ := f2 i es[i] (List.getElem?_eq_getElem hes)
      have hzip : (ss.zip ts)[i]? = some (y1, y2) := by rw [List.getElem?_zip_eq_some]; exact ⟨g1, g2⟩
      obtain ⟨b', g3, s3⟩ := f3 i _ hzip
      rw [List.getElem?_eq_getElem hi, eb] at g3
      cases g3
      obtain ⟨z1, hz1, rz1⟩ := q1.get (List.getElem?_eq_getElem hds)
      obtain ⟨z2, hz2, rz2⟩ := q2.get (List.getElem?_eq_getElem hes)
      rw [hz1] at hz2; cases hz2
      exact ih ds[i] es[i] z1 y1 y2 b rz1 rz2 s1 s2 s3
    rcases eqN_some hb fl with ⟨m', ss, ts, em, rfl, rfl⟩ | ⟨m', ss, ts, em, rfl, rfl⟩
    · cases em
      obtain ⟨ds, rfl⟩ := snap_isT h1
      obtain ⟨es, rfl⟩ := snap_isT h2
      obtain ⟨_, _, em, ez, k1⟩ := snap_tup h1
      cases em
      cases ez
      obtain ⟨_, _, em, ez, k2⟩ := snap_tup h2
      cases em
      cases ez
      obtain ⟨a, xs, rfl, q1, rr1⟩ := r1.tup_inv
      obtain ⟨a', ys, e', q2, rr2⟩ := r2.tup_inv
      cases e'
      have := I.tuple_inj q1 q2
      subst this
      unfold eqN at hb
      split at hb
      · obtain ⟨bs, kb, rfl⟩ := Option.map_eq_some_iff.mp hb
        exact items ds es xs ss ts bs rr1 rr2 k1 k2 kb
      · cases hb
    · cases em
      obtain ⟨a, rfl⟩ := snap_isL h1
      obtain ⟨a', rfl⟩ := snap_isL h2
      cases r1.ref_inv
      have e' := r2.ref_inv
      cases e'
      obtain ⟨_, ds, _, em, ez, hs1, k1⟩ := snap_ref h1
      cases em
      cases ez
      obtain ⟨_, es, _, em, ez, hs2, k2⟩ := snap_ref h2
      cases em
      cases ez
      rw [hs1] at hs2
      cases hs2
      rw [k1] at k2
      cases k2
      obtain ⟨xs, _, rr⟩ := sql_of c hs1
      unfold eqN at hb
      split at hb
      · obtain ⟨bs, kb, rfl⟩ := Option.map_eq_some_iff.mp hb
        exact items ds ds xs ss ss bs rr rr k1 k1 kb
      · rename_i h; exact absurd rfl h
/-- the items of two sequences -/
structure SeqPair (G : Gp) (K : PySem.W.Frag) (H : Hp) (m : Nat) (its its2 : List Value) (bs : List Bool) : Prop where
  len : its.length = its2.length
  bl : bs.length = its.length
  at_ : ∀ (j : Nat) (h1 : j < its.length) (h2 : j < its2.length) (h3 : j < bs.length), ∃ d e x y sd se, RelD K H d x ∧ RelV x its[j] ∧ RelD K H e y ∧ RelV y its2[j] ∧ snap G m d = some sd ∧ snap G m e = some se ∧ eqN m sd se = some bs[j]
theorem seqPair {m : Nat} {ds es : List D} {xs ys : List V} {its its2 : List Value} {ss ts : List Sn} {bs : List Bool} (q1 : RelDs X.K H ds xs) (v1 : Vals xs its) (q2 : RelDs X.K H es ys) (v2 : Vals ys its2)
    (k1 : ds.mapM (snap G m) = some ss) (k2 : es.mapM (snap G m) = some ts) (hl : ss.length = ts.length) (kb : ((ss.zip ts).mapM fun p => eqN m p.1 p.2) = some bs) : SeqPair G X.K H m its its2 bs := by
  obtain ⟨l1, f1⟩ := mapM_some k1
  obtain ⟨l2, f2⟩ := mapM_some k2
  obtain ⟨l3, f3⟩ := mapM_some kb
  have hz : (ss.zip ts).length = min ss.length ts.length := List.length_zip
  have e1 := q1.length
  have e2 := q2.length
  have e3 := v1.length
  have e4 := v2.length
  refine ⟨by omega, by omega, fun j h1 h2 h3 => ?_⟩
  have hds : j < ds.length := by omega
  have hes : j < es.length := by omega
  obtain ⟨y1, g1, s1⟩ := f1 j ds[j] (List.getElem?_eq_getElem hds)
  obtain ⟨y2, g2, s2⟩ := f2 j es[j] (List.getElem?_eq_getElem hes)
  have hzip : (ss.zip ts)[j]? = some (y1, y2) := by rw [List.getElem?_zip_eq_some]; exact ⟨g1, g2⟩
  obtain ⟨b', g3, s3⟩ := f3 j _ hzip
  rw [List.getElem?_eq_getElem h3] at g3
  cases g3
  obtain ⟨z1, hz1, rz1⟩ := q1.get (List.getElem?_eq_getElem hds)
  obtain ⟨z2, hz2, rz2⟩ := q2.get (List.getElem?_eq_getElem hes)
  obtain ⟨u1, hu1, ru1⟩ := v1.get hz1
  obtain ⟨u2, hu2, ru2⟩ := v2.get hz2
  rw [List.getElem?_eq_getElem h1] at hu1
  rw [List.getElem?_eq_getElem h2] at hu2
  cases hu1
  cases hu2
  exact ⟨ds[j], es[j], z1, z2, y1, y2, rz1, ru1, rz2, ru2, s1, s2, s3⟩
end
end L3
namespace L3
open PySem PySem.Spec PyProof.Rows L2
set_option maxHeartbeats 4000000
section
variable {X : Cx} {pins : List (Addr × Obj)} {σ : L2.St} {H : Hp} {s : Shared} {G : Gp}
theorem eq_flat (I : Inv X pins σ H s) {n : Nat} {A : Around} {d e : D} {x y : V} {u v : Value} {sd se : Sn} {b : Bool} (r1 : RelD X.K H d x) (v1 : RelV x u) (r2 : RelD X.K H e y) (v2 : RelV y v) (h1 : snap G n d = some sd) (h2 : snap G n e = some se) (hb : eqN n sd se = some b) (fl : (flatS sd && flatS se) = true) : SeqAt.EqAt A s u v b := by
  rw [Bool.and_eq_true] at fl
  have hb' : b = eqF sd se := by
    have z := hb
    rw [eqN_flat fl.1, if_pos (by rw [fl.1, fl.2]; rfl)] at z
    exact (Option.some.inj z).symm
  obtain ⟨fx, k⟩ := flat_of (u := u) h1 fl.1 r1
  obtain ⟨fy, _⟩ := flat_of (u := v) h2 fl.2 r2
  rw [hb', ← k e se y h2 fl.2 r2]
  exact eqAt_V v1 v2 fx fy
theorem eq_at (I : Inv X pins σ H s) (c : Con X.K G H) : ∀ (n : Nat) (A : Around) (d e : D) (x y : V) (u v : Value) (sd se : Sn) (b : Bool), RelD X.K H d x → RelV x u → RelD X.K H e y → RelV y v → snap G n d = some sd → snap G n e = some se → eqN n sd se = some b → A.units + n < cLine → SeqAt.EqAt A s u v b := by
  intro n
  induction n with
  | zero =>
    intro A d e x y u v sd se b r1 v1 r2 v2 h1 h2 hb hu
    by_cases fl : (flatS sd && flatS se) = true
    · exact eq_flat I r1 v1 r2 v2 h1 h2 hb fl
    · rcases eqN_some hb fl with ⟨_, _, _, z, _⟩ | ⟨_, _, _, z, _⟩ <;> cases z
  | succ m ih =>
    intro A d e x y u v sd se b r1 v1 r2 v2 h1 h2 hb hu
    by_cases fl : (flatS sd && flatS se) = true
    · exact eq_flat I r1 v1 r2 v2 h1 h2 hb fl
    · have inner : ∀ (its its2 : List Value) (bs : List Bool), SeqPair G X.K H m its its2 bs → ∀ j (h1 : j < its.toArray.size) (h2 : j < its2.toArray.size), SeqAt.EqAt A.in1 s its.toArray[j] its2.toArray[j] ((bs[j]?).getD true) := by
        intro its its2 bs P j h1 h2
        have h1' : j < its.length := by simpa using h1
        have h2' : j < its2.length := by simpa using h2
        have h3' : j < bs.length := by rw [P.bl]; exact h1'
        obtain ⟨d', e', x', y', sd', se', a1, a2, a3, a4, a5, a6, a7⟩ := P.at_ j h1' h2' h3'
        rw [List.getElem?_eq_getElem h3']
        have hu' : A.in1.units + m < cLine := by
          have : A.in1.units = A.units + 1 := rfl
          omega
        have := ih A.in1 d' e' x' y' _ _ sd' se' _ a1 a2 a3 a4 a5 a6 a7 hu'
        simpa using this
      rcases eqN_some hb fl with ⟨m', ss, ts, em, rfl, rfl⟩ | ⟨m', ss, ts, em, rfl, rfl⟩
      · cases em
        obtain ⟨ds, rfl⟩ := snap_isT h1
        obtain ⟨es, rfl⟩ := snap_isT h2
        obtain ⟨_, _, em, ez, k1⟩ := snap_tup h1
        cases em
        cases ez
        obtain ⟨_, _, em, ez, k2⟩ := snap_tup h2
        cases em
        cases ez
        obtain ⟨a, xs, rfl, q1, rr1⟩ := r1.tup_inv
        obtain ⟨a', ys, rfl, q2, rr2⟩ := r2.tup_inv
        cases v1
        cases v2
        by_cases haa : a = a'
        · subst haa
          rw [same_eq I c (m + 1) (.tup ds) (.tup es) (.ref a) _ _ b r1 r2 h1 h2 hb]
          exact SeqAt.EqAt.same _
        · unfold eqN at hb
          split at hb
          · rename_i hlen
            obtain ⟨bs, kb, rfl⟩ := Option.map_eq_some_iff.mp hb
            obtain ⟨its, w1, t1, _⟩ := I.tuple q1
            obtain ⟨its2, w2, t2, _⟩ := I.tuple q2
            have P := seqPair rr1 w1 rr2 w2 k1 k2 hlen kb
            have R := SeqAt.RcAt.tuples (A := A) (s := s) (e := fun j => (bs[j]?).getD true) (show s.heap.IsTuple a its.toArray from t1) (show s.heap.IsTuple a' its2.toArray from t2) (by omega) (inner its its2 bs P)
            have e1 : ((List.range (min its.toArray.size its2.toArray.size)).all (fun j => (bs[j]?).getD true) && its.toArray.size == its2.toArray.size) = bs.all id := by
              have el : its.toArray.size = its2.toArray.size := by simpa using P.len
              rw [el, Nat.min_self, beq_self_eq_true, Bool.and_true]
              exact all_of (by rw [← el]; simpa using P.bl) fun i b hb => by rw [hb]; rfl
            rw [e1] at R
            exact SeqAt.EqAt.of_refs haa R
          · cases hb
      · cases em
        obtain ⟨a, rfl⟩ := snap_isL h1
        obtain ⟨a', rfl⟩ := snap_isL h2
        obtain ⟨_, ds, _, em, ez, hs1, k1⟩ := snap_ref h1
        cases em
        cases ez
        obtain ⟨_, es, _, em, ez, hs2, k2⟩ := snap_ref h2
        cases em
        cases ez
        cases r1.ref_inv
        cases r2.ref_inv
        cases v1
        cases v2
        by_cases haa : a = a'
        · subst haa
          rw [same_eq I c (m + 1) (.ref a) (.ref a) (.ref a) _ _ b r1 r2 h1 h2 hb]
          exact SeqAt.EqAt.same _
        · obtain ⟨xs, q1, rr1⟩ := sql_of c hs1
          obtain ⟨ys, q2, rr2⟩ := sql_of c hs2
          obtain ⟨its, w1, t1, _⟩ := I.list q1
          obtain ⟨its2, w2, t2, _⟩ := I.list q2
          unfold eqN at hb
          split at hb
          · rename_i hlen
            obtain ⟨bs, kb, rfl⟩ := Option.map_eq_some_iff.mp hb
            have P := seqPair rr1 w1 rr2 w2 k1 k2 hlen kb
            have el : its.toArray.size = its2.toArray.size := by simpa using P.len
            have R := SeqAt.RcAt.lists (A := A) (s := s) (e := fun j => (bs[j]?).getD true) t1.isList t2.isList el (by omega) (inner its its2 bs P)
            have e1 : ((List.range its.toArray.size).all (fun j => (bs[j]?).getD true)) = bs.all id :=
              all_of (by simpa using P.bl) fun i b hb => by rw [hb]; rfl
            rw [e1] at R
            exact SeqAt.EqAt.of_refs haa R
          · rename_i hlen
            cases hb
            have n1 := (mapM_some k1).1
            have n2 := (mapM_some k2).1
            have m1 := rr1.length
            have m2 := rr2.length
            have m3 := w1.length
            have m4 := w2.length
            exact SeqAt.EqAt.of_refs haa (SeqAt.RcAt.lists_lengths t1.isList t2.isList (by simp; omega) (by omega))
end
/-- == and != of two lists, two tuples -/
noncomputable def rEqD (K : PySem.W.Frag) (neg : Bool) : R2 := fun x y H Q => ∃ (d e : D) (G : Gp) (n : Nat) (sd se : Sn) (b : Bool), RelD K H d x ∧ RelD K H e y ∧ Con K G H ∧ n ≤ 40 ∧ snap G n d = some sd ∧ snap G n e = some se ∧ eqN n sd se = some b ∧ flatS sd = false ∧ Q (.bl (if neg then !b else b)) H
section
variable {X : Cx} {k : Nat}
theorem op_eqD (hr : Room k X.A) : OpR X (compareOp .Eq) (rEqD X.K false) := by
  intro pins s σ H x y v u Q I rx ry h
  obtain ⟨d, e, G, n, sd, se, b, r1, r2, c, hn, h1, h2, hb, fl, q⟩ := h
  have hu := hr.units
  have fin : EP X pins σ Q (.bool b) s := ⟨.bl b, H, I, rfl, q⟩
  rcases eqN_some hb (fun z => by rw [fl] at z; cases z) with ⟨m, ss, ts, rfl, rfl, rfl⟩ | ⟨m, ss, ts, rfl, rfl, rfl⟩
  · obtain ⟨ds, rfl⟩ := snap_isT h1
    obtain ⟨es, rfl⟩ := snap_isT h2
    · · · obtain ⟨_, ss', em, ez, k1⟩ := snap_tup h1
          cases em
          cases ez
          obtain ⟨m', ts', em, es', k2⟩ := snap_tup h2
          cases em
          cases es'
          obtain ⟨a, xs, rfl, q1, rr1⟩ := r1.tup_inv
          obtain ⟨a', ys, rfl, q2, rr2⟩ := r2.tup_inv
          cases rx
          cases ry
          unfold eqN at hb
          split at hb
          · rename_i hlen
            obtain ⟨bs, kb, rfl⟩ := Option.map_eq_some_iff.mp hb
            obtain ⟨its, w1, t1, _⟩ := I.tuple q1
            obtain ⟨its2, w2, t2, _⟩ := I.tuple q2
            have P := seqPair rr1 w1 rr2 w2 k1 k2 hlen kb
            refine SeqAt.eq_tupleAt (e := fun j => (bs[j]?).getD true) (show s.heap.IsTuple a its.toArray from t1) (show s.heap.IsTuple a' its2.toArray from t2) (by omega) ?_ ?_
            · intro j h1 h2
              have h1' : j < its.length := by simpa using h1
              have h2' : j < its2.length := by simpa using h2
              have h3' : j < bs.length := by rw [P.bl]; exact h1'
              obtain ⟨d', e', x', y', sd', se', a1, a2, a3, a4, a5, a6, a7⟩ := P.at_ j h1' h2' h3'
              rw [List.getElem?_eq_getElem h3']
              have := eq_at I c m X.A.in1 d' e' x' y' _ _ sd' se' _ a1 a2 a3 a4 a5 a6 a7 (by have : X.A.in1.units = X.A.units + 1 := rfl; omega)
              simpa using this
            · have e1 : ((List.range (min its.toArray.size its2.toArray.size)).all (fun j => (bs[j]?).getD true) && its.toArray.size == its2.toArray.size) = bs.all id := by
                have el : its.toArray.size = its2.toArray.size := by simpa using P.len
                rw [el, Nat.min_self, beq_self_eq_true, Bool.and_true]
                exact all_of (by rw [← el]; simpa using P.bl) fun i b hb => by rw [hb]; rfl
              rw [e1]
              exact fin
          · cases hb
  · obtain ⟨a, rfl⟩ := snap_isL h1
    obtain ⟨a', rfl⟩ := snap_isL h2
    · · · obtain ⟨_, ds, ss', em, ez, hs1, k1⟩ := snap_ref h1
          cases em
          cases ez
          obtain ⟨m', es, ts', em, es', hs2, k2⟩ := snap_ref h2
          cases em
          cases es'
          cases r1.ref_inv
          cases r2.ref_inv
          cases rx
          cases ry
          obtain ⟨xs, q1, rr1⟩ := sql_of c hs1
          obtain ⟨ys, q2, rr2⟩ := sql_of c hs2
          obtain ⟨its, w1, t1, _⟩ := I.list q1
          obtain ⟨its2, w2, t2, _⟩ := I.list q2
          unfold eqN at hb
          split at hb
          · rename_i hlen
            obtain ⟨bs, kb, rfl⟩ := Option.map_eq_some_iff.mp hb
            have P := seqPair rr1 w1 rr2 w2 k1 k2 hlen kb
            have el : its.toArray.size = its2.toArray.size := by simpa using P.len
            refine SeqAt.eq_listAt (e := fun j => (bs[j]?).getD true) t1.isList t2.isList el (by omega) ?_ ?_
            · intro j h1 h2
              have h1' : j < its.length := by simpa using h1
              have h2' : j < its2.length := by simpa using h2
              have h3' : j < bs.length := by rw [P.bl]; exact h1'
              obtain ⟨d', e', x', y', sd', se', a1, a2, a3, a4, a5, a6, a7⟩ := P.at_ j h1' h2' h3'
              rw [List.getElem?_eq_getElem h3']
              have := eq_at I c m X.A.in1 d' e' x' y' _ _ sd' se' _ a1 a2 a3 a4 a5 a6 a7 (by have : X.A.in1.units = X.A.units + 1 := rfl; omega)
              simpa using this
            · have e1 : ((List.range its.toArray.size).all (fun j => (bs[j]?).getD true)) = bs.all id :=
                all_of (by simpa using P.bl) fun i b hb => by rw [hb]; rfl
              rw [e1]
              exact fin
          · rename_i hlen
            cases hb
            have n1 := (mapM_some k1).1
            have n2 := (mapM_some k2).1
            have m1 := rr1.length
            have m2 := rr2.length
            have m3 := w1.length
            have m4 := w2.length
            exact SeqAt.eq_list_lengthsAt t1.isList t2.isList (by simp; omega) (by omega) fin
theorem op_neD (hr : Room k X.A) : OpR X (compareOp .NotEq) (rEqD X.K true) := by
  intro pins s σ H x y v u Q I rx ry h
  obtain ⟨d, e, G, n, sd, se, b, r1, r2, c, hn, h1, h2, hb, fl, q⟩ := h
  have hu := hr.units
  have fin : EP X pins σ Q (.bool (!b)) s := ⟨.bl (!b), H, I, rfl, q⟩
  rcases eqN_some hb (fun z => by rw [fl] at z; cases z) with ⟨m, ss, ts, rfl, rfl, rfl⟩ | ⟨m, ss, ts, rfl, rfl, rfl⟩
  · obtain ⟨ds, rfl⟩ := snap_isT h1
    obtain ⟨es, rfl⟩ := snap_isT h2
    · · · obtain ⟨_, ss', em, ez, k1⟩ := snap_tup h1
          cases em
          cases ez
          obtain ⟨m', ts', em, es', k2⟩ := snap_tup h2
          cases em
          cases es'
          obtain ⟨a, xs, rfl, q1, rr1⟩ := r1.tup_inv
          obtain ⟨a', ys, rfl, q2, rr2⟩ := r2.tup_inv
          cases rx
          cases ry
          unfold eqN at hb
          split at hb
          · rename_i hlen
            obtain ⟨bs, kb, rfl⟩ := Option.map_eq_some_iff.mp hb
            obtain ⟨its, w1, t1, _⟩ := I.tuple q1
            obtain ⟨its2, w2, t2, _⟩ := I.tuple q2
            have P := seqPair rr1 w1 rr2 w2 k1 k2 hlen kb
            refine SeqAt.RcNeAt.tuples (e := fun j => (bs[j]?).getD true) (show s.heap.IsTuple a its.toArray from t1) (show s.heap.IsTuple a' its2.toArray from t2) (by omega) ?_ X.prog X.w X.xe _ ?_
            · intro j h1 h2
              have h1' : j < its.length := by simpa using h1
              have h2' : j < its2.length := by simpa using h2
              have h3' : j < bs.length := by rw [P.bl]; exact h1'
              obtain ⟨d', e', x', y', sd', se', a1, a2, a3, a4, a5, a6, a7⟩ := P.at_ j h1' h2' h3'
              rw [List.getElem?_eq_getElem h3']
              have := eq_at I c m X.A.in1 d' e' x' y' _ _ sd' se' _ a1 a2 a3 a4 a5 a6 a7 (by have : X.A.in1.units = X.A.units + 1 := rfl; omega)
              simpa using this
            · have e1 : ((List.range (min its.toArray.size its2.toArray.size)).all (fun j => (bs[j]?).getD true) && its.toArray.size == its2.toArray.size) = bs.all id := by
                have el : its.toArray.size = its2.toArray.size := by simpa using P.len
                rw [el, Nat.min_self, beq_self_eq_true, Bool.and_true]
                exact all_of (by rw [← el]; simpa using P.bl) fun i b hb => by rw [hb]; rfl
              rw [e1]
              exact fin
          · cases hb
  · obtain ⟨a, rfl⟩ := snap_isL h1
    obtain ⟨a', rfl⟩ := snap_isL h2
    · · · obtain ⟨_, ds, ss', em, ez, hs1, k1⟩ := snap_ref h1
          cases em
          cases ez
          obtain ⟨m', es, ts', em, es', hs2, k2⟩ := snap_ref h2
          cases em
          cases es'
          cases r1.ref_inv
          cases r2.ref_inv
          cases rx
          cases ry
          obtain ⟨xs, q1, rr1⟩ := sql_of c hs1
          obtain ⟨ys, q2, rr2⟩ := sql_of c hs2
          obtain ⟨its, w1, t1, _⟩ := I.list q1
          obtain ⟨its2, w2, t2, _⟩ := I.list q2
          unfold eqN at hb
          split at hb
          · rename_i hlen
            obtain ⟨bs, kb, rfl⟩ := Option.map_eq_some_iff.mp hb
            have P := seqPair rr1 w1 rr2 w2 k1 k2 hlen kb
            have el : its.toArray.size = its2.toArray.size := by simpa using P.len
            refine SeqAt.RcNeAt.lists (e := fun j => (bs[j]?).getD true) t1.isList t2.isList el (by omega) ?_ X.prog X.w X.xe _ ?_
            · intro j h1 h2
              have h1' : j < its.length := by simpa using h1
              have h2' : j < its2.length := by simpa using h2
              have h3' : j < bs.length := by rw [P.bl]; exact h1'
              obtain ⟨d', e', x', y', sd', se', a1, a2, a3, a4, a5, a6, a7⟩ := P.at_ j h1' h2' h3'
              rw [List.getElem?_eq_getElem h3']
              have := eq_at I c m X.A.in1 d' e' x' y' _ _ sd' se' _ a1 a2 a3 a4 a5 a6 a7 (by have : X.A.in1.units = X.A.units + 1 := rfl; omega)
              simpa using this
            · have e1 : ((List.range its.toArray.size).all (fun j => (bs[j]?).getD true)) = bs.all id :=
                all_of (by simpa using P.bl) fun i b hb => by rw [hb]; rfl
              rw [e1]
              exact fin
          · rename_i hlen
            cases hb
            have n1 := (mapM_some k1).1
            have n2 := (mapM_some k2).1
            have m1 := rr1.length
            have m2 := rr2.length
            have m3 := w1.length
            have m4 := w2.length
            exact SeqAt.RcNeAt.lists_lengths t1.isList t2.isList (by simp; omega) (by omega) X.prog X.w X.xe _ fin
end
end L3

namespace L3
open PySem PySem.Spec PyProof.Rows L2
set_option maxHeartbeats 4000000
/-! ### a def of the text, its promise -/
structure FnAt (K : PySem.W.Frag) (x qual : Str) (st : Stmt) (ps : List Str) where
  a : Addr
  fd : FuncData
  ex : ∃ (oc : Value) (od : Option Addr) (dV kV doc pm : Value) (an : Option Addr) (cdv ct : Value) (osl : Array (Option Value)),
    fd = PySem.W.fnOf x qual (defArgs st) (defBody st) (defScope st) dV kV doc pm an cdv ct ∧ K.lookup a = some ⟨oc, od, .func fd, osl⟩ ∧ PySem.W.codeIn K cdv qual = true
  kp : PySem.W.keepIn K (.ref a) = true
  b : Binds K fd ps []
noncomputable abbrev Ok (P : Program) (w : World) {K : PySem.W.Frag} (mg : Str → Option Value) (base : Heap) (n : Nat) {x qual : Str} {st : Stmt} {ps : List Str} (d : FnAt K x qual st ps) (S : Sp3) : Prop := FnOk P w K mg base CX0 n d.a d.fd ps (lowSp K S)
noncomputable def startD (N : List Str) (ds : List D) : DSt := ds.map some ++ List.replicate (N.length - ds.length) none
theorem startD_rel {K : PySem.W.Frag} {H : Hp} {N : List Str} {ds : List D} {vs : List V} (r : RelDs K H ds vs) : RelSt K H (startD N ds) (L2.start N vs) := by
  unfold startD L2.start
  refine ⟨by simp [r.length], fun i d e => ?_⟩
  by_cases hi : i < ds.length
  · rw [List.getElem?_append_left (by simpa using hi), List.getElem?_map] at e
    rw [List.getElem?_append_left (by simpa [← r.length] using hi), List.getElem?_map]
    cases h : ds[i]? with
    | none => rw [h] at e; cases e
    | some d' =>
      rw [h] at e; cases e
      obtain ⟨v, hv, rv⟩ := r.get h
      exact ⟨v, by rw [hv]; rfl, rv⟩
  · rw [List.getElem?_append_right (by simpa using hi), List.getElem?_replicate] at e
    split at e <;> cases e
section
variable {P : Program} {w : World} {K : PySem.W.Frag} {mg : Str → Option Value} {base : Heap}
/-- THE RULE for a def -/
theorem def_ok {x qual : Str} {st : Stmt} {ps N : List Str} {k : Nat} (d : FnAt K x qual st ps) {S : Sp3} (sc : FnScope N ps (defScope st)) (hl : ∀ ds G R, S ds G R → ds.length = ps.length) {t : TS3}
    (ht : ∀ (cdv : Value) (A : Around) (outer : List Env) (s : Shared) (H : Hp) (E : XK), Room k (A.deeper (envOfC qual (defScope st) s.heap.objs.size d.a cdv)) → Ss3 (cxOf CX0 P w K mg base N qual (defScope st) d.a cdv A outer s H E).nox (defBody st) t)
    (hb : ∀ ds G R, S ds G R → t { nx := fun _ G' => R .non G', rt := R } (startD N ds) G) : Ok P w mg base (k + 1) d S := by
  obtain ⟨oc, od, dV, kV, doc, pm, an, cdv, ct, osl, e, lk, hcd⟩ := d.ex
  have lk' : K.lookup d.a = some ⟨oc, od, .func (PySem.W.fnOf x qual (defArgs st) (defBody st) (defScope st) dV kV doc pm an cdv ct), osl⟩ := e ▸ lk
  have F : FnOk P w K mg base CX0 (k + 1) d.a (PySem.W.fnOf x qual (defArgs st) (defBody st) (defScope st) dV kV doc pm an cdv ct) ps (lowSp K S) := by
    refine fn_of lk' hcd sc (fun vs H Q E h => ?_) fun A outer s H vs Q E hr h => ?_
    · obtain ⟨ds, G, R, r, _, hS, _⟩ := h
      rw [← r.length]; exact hl ds G R hS
    · obtain ⟨ds, G, R, r, c, hS, f⟩ := h
      refine ⟨_, (show PSs _ _ _ from ht cdv A outer s H E hr).nox, startD N ds, G, _, startD_rel r, c, hb ds G R hS, fun σd' G' σ' H' _ c' l' q => ?_, f, fun _ _ _ _ _ _ _ q => q.elim, fun _ _ _ _ _ _ _ q => q.elim⟩
      exact f .non G' .non H' RelD.nonI c' l' q
  have F2 := F
  rw [← e] at F2
  exact F2
end
section
variable {X : Cx} {e o : Expr} {es : List Expr} {p pos apos : Pos} {ta : TE3} {ts : TA3} {k n : Nat} {S : Sp3} {x m qual : Str} {st : Stmt} {ps : List Str} {C : Addr}
theorem ec (d : FnAt X.K x qual st ps) (hm : X.mg x = some (.ref d.a)) (G : FnOk X.prog X.w X.K X.mg X.base CX0 k d.a d.fd ps (lowSp X.K S)) (hr : Room k X.A) (ha : A3 X (e :: es) ts) (hg : Gl X x := by rfl) (hdb : (x == ("__debug__" : Str)) = false := by decide)
    (he : starEach (e :: es) X.env = (false, eval e X.env) :: starEach es X.env := by rfl) (hpl : (backTo pos (starEach es X.env)).any (·.1) = false := by rfl) : E3 X (.Call (.Name x p) (e :: es) [] pos) (dCall S [] ts) :=
  e_call G hr hg hm d.kp d.b .nil (fun _ => .nil) ha hdb he hpl
theorem em {pl : Sem Bool} (c : Cls X.K C) (d : FnAt X.K m qual st ps) (hm : Meth X.K C m d.a) (G : FnOk X.prog X.w X.K X.mg X.base CX0 k d.a d.fd ps (lowSp X.K S)) (hr : Room k X.A) (he : E3 X o ta) (ha : A3 X (e :: es) ts)
    (hse : starEach (e :: es) X.env = (false, eval e X.env) :: starEach es X.env := by rfl) (hpl : (backTo pos (starEach es X.env)).any (·.1) = false := by rfl)
    (ht : eval (.Call (.Attribute o m apos) (e :: es) [] pos) X.env = (do
      let ov ← eval o X.env
      standAt apos.atName
      let (f, first) ← holding [ov] (getMethod ov m pl)
      callWith pos f first (backTo pos (starEach (e :: es) X.env)) (backToKw pos (keywordEach [] X.env))) := by rfl) : E3 X (.Call (.Attribute o m apos) (e :: es) [] pos) (dMeth C m S [] ta ts) :=
  e_meth he c hm G hr d.b .nil (fun _ => .nil) ha hse hpl ht
theorem em0 {pl : Sem Bool} (c : Cls X.K C) (d : FnAt X.K m qual st ps) (hm : Meth X.K C m d.a) (G : FnOk X.prog X.w X.K X.mg X.base CX0 k d.a d.fd ps (lowSp X.K S)) (hr : Room k X.A) (he : E3 X o ta)
    (ht : eval (.Call (.Attribute o m apos) [] [] pos) X.env = (do
      let ov ← eval o X.env
      standAt apos.atName
      let (f, first) ← holding [ov] (getMethod ov m pl)
      callWith pos f first (backTo pos (starEach [] X.env)) (backToKw pos (keywordEach [] X.env))) := by rfl) : E3 X (.Call (.Attribute o m apos) [] [] pos) (dMeth C m S [] ta dNil) :=
  e_meth0 he c hm G hr d.b .nil (fun _ => .nil) ht
end
/-! ### promises -/
noncomputable def spec (pre : List D → Gp → Prop) (post : List D → Gp → D → Gp → Prop) : Sp3 := fun ds G R => pre ds G ∧ ∀ d G', post ds G d G' → R d G'
theorem spec_call {pre : List D → Gp → Prop} {post : List D → Gp → D → Gp → Prop} {ds : List D} {G : Gp} {q : DK} (h : pre ds G) (k : ∀ d G', post ds G d G' → q d G') : ∃ R, spec pre post ds G R ∧ ∀ d G', R d G' → q d G' :=
  ⟨post ds G, ⟨h, fun _ _ z => z⟩, k⟩
/-! ### a block's scope, checked by running -/
noncomputable def blkOk (osc : Scope) (N N' : List Str) (ix : List (Option Nat)) (scope : Scope) : Bool :=
  (scope.kind == .function) && scope.names.all (fun y => y.2 != .cell) && scope.names.all (fun y => y.2 != .local || scope.names.lookup y.1 == some .local) &&
  scope.names.all (fun y => y.2 != .free || osc.names.lookup y.1 == some .cell || osc.names.lookup y.1 == some .free) && (ix.length == N'.length) &&
  (N'.zip ix).all (fun p => match p.2 with | none => true | some j => N[j]? == some p.1 && scope.names.lookup p.1 == some .free)
theorem blk {X : Cx} {osc : Scope} {N N' : List Str} {ix : List (Option Nat)} {scope : Scope} (h1 : X.env.scope = osc) (h2 : X.N = N) (h : blkOk osc N N' ix scope = true) : BlkOk X N' ix scope := by
  unfold blkOk at h
  simp only [Bool.and_eq_true] at h
  obtain ⟨⟨⟨⟨⟨a1, a2⟩, a3⟩, a4⟩, a5⟩, a6⟩ := h
  rw [List.all_eq_true] at a2 a3 a4 a6
  refine ⟨eq_of_beq a1, fun y hy => by simpa using a2 y hy, fun y hy e => ?_, fun y hy e => ?_, eq_of_beq a5, fun i j x e1 e2 => ?_⟩
  · have := a3 y hy
    simp only [e, bne_self_eq_false, Bool.false_or] at this
    exact eq_of_beq this
  · have := a4 y hy
    simp only [e, bne_self_eq_false, Bool.false_or, Bool.or_eq_true, beq_iff_eq] at this
    unfold Env.kindOf
    rw [h1]
    exact this
  · have hz : (N'.zip ix)[i]? = some (x, some j) := by rw [List.getElem?_zip_eq_some]; exact ⟨e1, e2⟩
    have := a6 _ (List.mem_of_getElem? hz)
    simp only [Bool.and_eq_true, beq_iff_eq] at this
    rw [h2]
    exact this
end L3
namespace L3
open PySem PySem.Spec PyProof.Rows L2
set_option maxHeartbeats 4000000
section
variable {X : Cx} {K : PySem.W.Frag} {H : Hp}
/-! ### slices -/
noncomputable def xSlice : RS3 := fun x lo hi G q => match x with
  | .ref a => (match seqOf (G a) with | some ds => ∀ p, G p = none → q (.ref p) (gup G p (.lst (cutD ds lo hi))) | none => False)
  | .tup ds => ¬ (HT.sIx ds.length 0 lo = 0 ∧ HT.sIx ds.length ds.length hi = ds.length) ∧ q (.tup (cutD ds lo hi)) G
  | _ => False
theorem x_sl : SlR X (lowRS X.K xSlice) := weakSl (sl_list.or sl_tup) <| by
  rintro x lo hi H Q ⟨d, G, q, r1, c, t, f⟩
  unfold xSlice at t
  split at t
  · rename_i a
    split at t
    · rename_i ds e
      obtain ⟨xs, s1, q1⟩ := sql_of c e
      exact .inl ⟨a, xs, r1.ref_inv, s1, fun p hp => f _ _ _ _ RelD.refI (c.lstNew hp (q1.cut lo hi)) (Le.fresh hp) (t p (c.fresh hp))⟩
    · exact t.elim
  · rename_i ds
    obtain ⟨a, xs, rfl, s1, q1⟩ := r1.tup_inv
    refine .inr ⟨a, xs, rfl, s1, by rw [← q1.length]; exact t.1, fun p hp => ?_⟩
    refine f (.tup _) G (.ref p) _ ?_ (c.side hp) (Le.fresh hp) t.2
    rw [RelD]
    exact ⟨p, _, rfl, SqT.of upd_same, RelDs.le (Le.fresh hp) (q1.cut lo hi)⟩
  · exact t.elim
/-! ### built-in functions -/
noncomputable def xLen : C3 := fun ds G q => match ds with
  | [.str z] => z.length ≤ sizeLine ∧ q (.int z.length) G
  | [.tup xs] => q (.int xs.length) G
  | [.ref a] => (match seqOf (G a) with | some xs => q (.int xs.length) G | none => False)
  | _ => False
theorem RelDs.one {d : D} {vs : List V} (h : RelDs K H [d] vs) : ∃ v, vs = [v] ∧ RelD K H d v := by
  obtain ⟨x, r, rfl, h1, h2⟩ := h.inv_cons
  rw [h2.inv_nil]
  exact ⟨x, rfl, h1⟩
theorem RelDs.two {d e : D} {vs : List V} (h : RelDs K H [d, e] vs) : ∃ v u, vs = [v, u] ∧ RelD K H d v ∧ RelD K H e u := by
  obtain ⟨x, r, rfl, h1, h2⟩ := h.inv_cons
  obtain ⟨y, rfl, h3⟩ := h2.one
  exact ⟨x, y, rfl, h1, h3⟩
theorem x_len : Call3 X (.builtin "len") xLen := weakCall (call_len_seq.or call_len_str) <| by
  rintro xs H Q ⟨ds, G, q, r, c, t, f⟩
  unfold xLen at t
  split at t
  · obtain ⟨v, rfl, r1⟩ := r.one
    cases r1.str_inv
    exact .inr ⟨_, rfl, t.1, f _ _ _ _ RelD.intI c (Le.refl H) t.2⟩
  · obtain ⟨v, rfl, r1⟩ := r.one
    obtain ⟨a, ys, rfl, s1, q1⟩ := r1.tup_inv
    refine .inl ⟨a, ys, rfl, .inr s1, ?_⟩
    rw [← q1.length]
    exact f _ _ _ _ RelD.intI c (Le.refl H) t
  · obtain ⟨v, rfl, r1⟩ := r.one
    cases r1.ref_inv
    split at t
    · rename_i ds e
      obtain ⟨ys, s1, q1⟩ := sql_of c e
      refine .inl ⟨_, ys, rfl, .inl s1, ?_⟩
      rw [← q1.length]
      exact f _ _ _ _ RelD.intI c (Le.refl H) t
    · exact t.elim
  · exact t.elim
noncomputable def xAbs : C3 := fun ds G q => match ds with | [.int i] => q (.int (if i < 0 then -i else i)) G | _ => False
theorem x_abs : Call3 X (.builtin "abs") xAbs := weakCall call_abs <| by
  rintro xs H Q ⟨ds, G, q, r, c, t, f⟩
  unfold xAbs at t
  split at t
  · obtain ⟨v, rfl, r1⟩ := r.one
    cases r1.int_inv
    exact ⟨_, rfl, f _ _ _ _ RelD.intI c (Le.refl H) t⟩
  · exact t.elim
noncomputable def xDivmod : C3 := fun ds G q => match ds with | [.int i, .int j] => CDiv i j ∧ q (.tup [.int (i / j), .int (i % j)]) G | _ => False
theorem x_divmod : Call3 X (.builtin "divmod") xDivmod := weakCall call_divmod <| by
  rintro xs H Q ⟨ds, G, q, r, c, t, f⟩
  unfold xDivmod at t
  split at t
  · obtain ⟨v, u, rfl, r1, r2⟩ := r.two
    cases r1.int_inv
    cases r2.int_inv
    refine ⟨_, _, rfl, t.1, fun p hp => f (.tup _) G (.ref p) _ ?_ (c.side hp) (Le.fresh hp) t.2⟩
    rw [RelD]
    exact ⟨p, _, rfl, SqT.of upd_same, .cons RelD.intI (.cons RelD.intI .nil)⟩
  · exact t.elim
noncomputable def xMax2 : C3 := fun ds G q => match ds with | [.int i, .int j] => q (.int (if j > i then j else i)) G | _ => False
noncomputable def xMin2 : C3 := fun ds G q => match ds with | [.int i, .int j] => q (.int (if j < i then j else i)) G | _ => False
theorem x_max2 (hc : X.calm = true := by rfl) : Call3 X (.builtin "max") xMax2 := weakCall (call_max2 hc) <| by
  rintro xs H Q ⟨ds, G, q, r, c, t, f⟩
  unfold xMax2 at t
  split at t
  · obtain ⟨v, u, rfl, r1, r2⟩ := r.two
    cases r1.int_inv
    cases r2.int_inv
    exact ⟨_, _, rfl, f _ _ _ _ RelD.intI c (Le.refl H) t⟩
  · exact t.elim
noncomputable def xToInt : C3 := fun ds G q => match ds with | [.int i] => q (.int i) G | [.bl b] => q (.int (if b then 1 else 0)) G | _ => False
theorem x_toInt : Call3 X (.type "int") xToInt := weakCall call_int1 <| by
  rintro xs H Q ⟨ds, G, q, r, c, t, f⟩
  unfold xToInt at t
  split at t
  · obtain ⟨v, rfl, r1⟩ := r.one
    cases r1.int_inv
    exact .inl ⟨_, rfl, f _ _ _ _ RelD.intI c (Le.refl H) t⟩
  · obtain ⟨v, rfl, r1⟩ := r.one
    cases r1.bl_inv
    exact .inr ⟨_, rfl, f _ _ _ _ RelD.intI c (Le.refl H) t⟩
  · exact t.elim
noncomputable def xToList : C3 := fun ds G q => match ds with
  | [.tup xs] => ∀ p, G p = none → q (.ref p) (gup G p (.lst xs))
  | [.ref a] => (match seqOf (G a) with | some xs => ∀ p, G p = none → q (.ref p) (gup G p (.lst xs)) | none => False)
  | _ => False
theorem x_toList : Call3 X (.type "list") xToList := weakCall call_list_of <| by
  rintro xs H Q ⟨ds, G, q, r, c, t, f⟩
  unfold xToList at t
  split at t
  · obtain ⟨v, rfl, r1⟩ := r.one
    obtain ⟨a, ys, rfl, s1, q1⟩ := r1.tup_inv
    exact ⟨a, ys, rfl, .inr s1, fun p hp => f _ _ _ _ RelD.refI (c.lstNew hp q1) (Le.fresh hp) (t p (c.fresh hp))⟩
  · obtain ⟨v, rfl, r1⟩ := r.one
    cases r1.ref_inv
    split at t
    · rename_i ds e
      obtain ⟨ys, s1, q1⟩ := sql_of c e
      exact ⟨_, ys, rfl, .inl s1, fun p hp => f _ _ _ _ RelD.refI (c.lstNew hp q1) (Le.fresh hp) (t p (c.fresh hp))⟩
    · exact t.elim
  · exact t.elim
noncomputable def xToTuple : C3 := fun ds G q => match ds with
  | [.tup xs] => q (.tup xs) G
  | [.ref a] => (match seqOf (G a) with | some xs => q (.tup xs) G | none => False)
  | _ => False
theorem x_toTuple : Call3 X (.type "tuple") xToTuple := weakCall call_tuple_of <| by
  rintro xs H Q ⟨ds, G, q, r, c, t, f⟩
  unfold xToTuple at t
  split at t
  · obtain ⟨v, rfl, r1⟩ := r.one
    obtain ⟨a, ys, rfl, s1, q1⟩ := r1.tup_inv
    exact ⟨a, ys, rfl, .inr ⟨s1, f _ _ _ _ r1 c (Le.refl H) t⟩⟩
  · obtain ⟨v, rfl, r1⟩ := r.one
    cases r1.ref_inv
    split at t
    · rename_i ds e
      obtain ⟨ys, s1, q1⟩ := sql_of c e
      refine ⟨_, ys, rfl, .inl ⟨s1, fun p hp => f (.tup _) G (.ref p) _ ?_ (c.side hp) (Le.fresh hp) t⟩⟩
      rw [RelD]
      exact ⟨p, _, rfl, SqT.of upd_same, RelDs.le (Le.fresh hp) q1⟩
    · exact t.elim
  · exact t.elim
noncomputable def allBl : List D → Option (List Bool)
  | [] => some []
  | .bl b :: r => (allBl r).map (b :: ·)
  | _ => none
theorem allBl_rel : ∀ {ds : List D} {bs : List Bool} {vs : List V}, allBl ds = some bs → RelDs K H ds vs → vs = bs.map V.bl
  | [], bs, vs, e, r => by cases e; rw [r.inv_nil]; rfl
  | .bl b :: ds, bs, vs, e, r => by
    obtain ⟨x, xs, rfl, h1, h2⟩ := r.inv_cons
    obtain ⟨bs', e', rfl⟩ := Option.map_eq_some_iff.mp (show (allBl ds).map (b :: ·) = some bs from e)
    rw [h1.bl_inv, allBl_rel e' h2]
    rfl
  | .non :: _, _, _, e, _ => by cases e
  | .int _ :: _, _, _, e, _ => by cases e
  | .str _ :: _, _, _, e, _ => by cases e
  | .tup _ :: _, _, _, e, _ => by cases e
  | .ref _ :: _, _, _, e, _ => by cases e
  | .ty _ :: _, _, _, e, _ => by cases e
noncomputable def xAll : C3 := fun ds G q => match ds with
  | [.ref a] => (match seqOf (G a) with | some xs => (match allBl xs with | some bs => q (.bl (bs.all id)) G | none => False) | none => False)
  | _ => False
theorem x_all (hc : X.calm = true := by rfl) : Call3 X (.builtin "all") xAll := weakCall (call_all hc) <| by
  rintro xs H Q ⟨ds, G, q, r, c, t, f⟩
  unfold xAll at t
  split at t
  · obtain ⟨v, rfl, r1⟩ := r.one
    cases r1.ref_inv
    split at t
    · rename_i ds e
      obtain ⟨ys, s1, q1⟩ := sql_of c e
      split at t
      · rename_i bs eb
        have := allBl_rel eb q1
        subst this
        exact ⟨_, bs, rfl, s1, f _ _ _ _ RelD.blI c (Le.refl H) t⟩
      · exact t.elim
    · exact t.elim
  · exact t.elim
/-! ### isinstance -/
noncomputable def kindD (G : Gp) : D → Option String
  | .non => some "NoneType"
  | .bl _ => some "bool"
  | .int _ => some "int"
  | .str _ => some "str"
  | .ref a => match G a with | some (.lst _) => some "list" | some (.fro _) => some "list" | some (.dic _) => some "dict" | _ => none
  | _ => none
noncomputable def xIsinst : C3 := fun ds G q => match ds with
  | [x, .ty T] => (T = "int" ∨ T = "str" ∨ T = "bool" ∨ T = "list" ∨ T = "tuple" ∨ T = "dict") ∧ (match kindD G x with | some n => q (.bl (subK n T)) G | none => False)
  | _ => False
theorem x_isinst : Call3 X (.builtin "isinstance") xIsinst := weakCall call_isinst <| by
  rintro xs H Q ⟨ds, G, q, r, c, t, f⟩
  unfold xIsinst at t
  split at t
  · rename_i d T
    obtain ⟨v, u, rfl, r1, r2⟩ := r.two
    rw [RelD] at r2
    subst r2
    obtain ⟨hT, t⟩ := t
    split at t
    · rename_i n en
      refine ⟨v, n, T, rfl, ?_, hT, f _ _ _ _ RelD.blI c (Le.refl H) t⟩
      unfold kindD at en
      split at en
      · cases r1.non_inv; cases en; rfl
      · cases r1.bl_inv; cases en; rfl
      · cases r1.int_inv; cases en; rfl
      · cases r1.str_inv; cases en; rfl
      · rename_i a
        cases r1.ref_inv
        split at en
        · rename_i xs ea; cases en; obtain ⟨ys, h1, _⟩ := c _ _ ea; exact .inl ⟨rfl, .inl ⟨ys, h1⟩⟩
        · rename_i xs ea; cases en; obtain ⟨o, ys, h1, _⟩ := c _ _ ea; exact .inl ⟨rfl, .inr ⟨o, ys, h1⟩⟩
        · rename_i xs ea; cases en; obtain ⟨ys, h1, _⟩ := c _ _ ea; exact .inr (.inr ⟨rfl, ys, h1⟩)
        · cases en
      · cases en
    · exact t.elim
  · exact t.elim
/-- the name of a built-in type as a value -/
theorem e_type {x : Str} {T : String} {pos : Pos} (hm : X.mg x = none) (hv : bootBuiltins x = some (.type T)) (hg : Gl X x := by rfl) (hn : x ≠ "__name__" := by decide) (hd : (x == ("__debug__" : Str)) = false := by decide) : E3 X (.Name x pos) (dC (.ty T)) :=
  weakE (pe_bltn (v := .ty T) hg hm hv rfl hn hd) fun _ _ _ => low_c fun _ => by rw [RelD]
/-! ### is -/
noncomputable def xIs2 : R3 := fun x y G q => match y with
  | .non => (match x with | .non => q (.bl true) G | _ => q (.bl false) G)
  | .bl b => (match x with | .bl c => q (.bl (decide (c = b))) G | _ => q (.bl false) G)
  | _ => False
noncomputable def xIsNot2 : R3 := fun x y G q => match y with
  | .non => (match x with | .non => q (.bl false) G | _ => q (.bl true) G)
  | .bl b => (match x with | .bl c => q (.bl (!decide (c = b))) G | _ => q (.bl true) G)
  | _ => False
theorem RelD.not_bl {d : D} {v : V} (h : RelD K H d v) (b : Bool) (n : ∀ c, d ≠ .bl c) : v ≠ .bl b := by
  cases d with
  | bl c => exact absurd rfl (n c)
  | non => rw [h.non_inv]; exact fun z => nomatch z
  | int _ => rw [h.int_inv]; exact fun z => nomatch z
  | str _ => rw [h.str_inv]; exact fun z => nomatch z
  | ref _ => rw [h.ref_inv]; exact fun z => nomatch z
  | ty _ => rw [RelD] at h; rw [h]; exact fun z => nomatch z
  | tup _ => obtain ⟨a, xs, e, _⟩ := h.tup_inv; rw [e]; exact fun z => nomatch z
theorem dec_blbl {c b : Bool} : decide (V.bl c = V.bl b) = decide (c = b) := by cases c <;> cases b <;> rfl
theorem x_is2 : Op3 X (compareOp .Is) xIs2 := weakOp (op_isN.or op_isB) <| by
  rintro x y H Q ⟨d, e, G, q, r1, r2, c, t, f⟩
  unfold xIs2 at t
  split at t
  · refine .inl ⟨r2.non_inv, ?_⟩
    split at t
    · rw [r1.non_inv]
      exact f _ _ _ _ RelD.blI c (Le.refl H) t
    · rename_i hd
      rw [decide_eq_false (r1.not_non fun z => hd z)]
      exact f _ _ _ _ RelD.blI c (Le.refl H) t
  · rename_i b
    refine .inr ⟨b, r2.bl_inv, ?_⟩
    split at t
    · rw [r1.bl_inv, dec_blbl]
      exact f _ _ _ _ RelD.blI c (Le.refl H) t
    · rename_i hd
      rw [decide_eq_false (r1.not_bl b fun z hz => hd z hz)]
      exact f _ _ _ _ RelD.blI c (Le.refl H) t
  · exact t.elim
theorem x_isNot2 : Op3 X (compareOp .IsNot) xIsNot2 := weakOp (op_notN.or op_isNotB) <| by
  rintro x y H Q ⟨d, e, G, q, r1, r2, c, t, f⟩
  unfold xIsNot2 at t
  split at t
  · refine .inl ⟨r2.non_inv, ?_⟩
    split at t
    · rw [r1.non_inv]
      exact f _ _ _ _ RelD.blI c (Le.refl H) t
    · rename_i hd
      rw [decide_eq_false (r1.not_non fun z => hd z)]
      exact f _ _ _ _ RelD.blI c (Le.refl H) t
  · rename_i b
    refine .inr ⟨b, r2.bl_inv, ?_⟩
    split at t
    · rw [r1.bl_inv, dec_blbl]
      exact f _ _ _ _ RelD.blI c (Le.refl H) t
    · rename_i hd
      rw [decide_eq_false (r1.not_bl b fun z hz => hd z hz)]
      exact f _ _ _ _ RelD.blI c (Le.refl H) t
  · exact t.elim
end
/-! ### unpacking, what is walked -/
noncomputable def jSeq (n : Nat) (t : TGs3) : TG3 := fun d σ G q => match d with
  | .tup ds => ds.length = n ∧ t ds σ G q
  | .ref a => (match seqOf (G a) with | some ds => ds.length = n ∧ t ds σ G q | none => False)
  | _ => False
noncomputable def wAny (te : TE3) : TI3 := fun σ G r => te σ G fun x G1 => match x with
  | .ref a => (match seqOf (G1 a) with | some ds => r ⟨ds, fun G => seqOf (G a) = some ds⟩ G1 | none => False)
  | .tup ds => r ⟨ds, fun _ => True⟩ G1
  | _ => False
section
variable {X : Cx} {es : List Expr} {e tg : Expr} {te : TE3} {pos : Pos}
theorem j_seq {k n : Nat} {t : TGs3} (hc : X.calm = true) (h : Js3 X es t) (hn : (assignEach es X.env).length = n := by rfl) (hst : (assignEach es X.env).findIdx? (·.1) = none := by rfl) : J3 X (.Tuple es k pos) (jSeq n t) :=
  weakG (pg_or (pg_tup hc h hn hst) (pg_list hc h hn hst)) fun v σ H Q hh => by
    obtain ⟨d, σd, G, q, r, rs, c, t, f⟩ := hh
    unfold jSeq at t
    split at t
    · rename_i ds
      obtain ⟨a, xs, rfl, s, r2⟩ := r.tup_inv
      exact .inl ⟨a, xs, rfl, s, by rw [← r2.length]; exact t.1, ds, σd, G, q, r2, rs, c, t.2, f⟩
    · rename_i a
      split at t
      · rename_i ds e
        obtain ⟨xs, s, r'⟩ := sql_of c e
        exact .inr ⟨a, xs, r.ref_inv, s, by rw [← r'.length]; exact t.1, ds, σd, G, q, r', rs, c, t.2, f⟩
      · exact t.elim
    · exact t.elim
theorem i_any (h : E3 X e te) : I3 X tg e (wAny te) := weakI (pi_seq h) fun σ H R hh => by
  obtain ⟨σd, G, q, rs, c, t, f⟩ := hh
  refine ⟨σd, G, _, rs, c, t, fun x G1 v H1 r1 c1 l1 t1 => ?_⟩
  split at t1
  · rename_i a
    split at t1
    · rename_i ds e
      obtain ⟨xs, s, _⟩ := sql_of c1 e
      exact ⟨a, r1.ref_inv, .inl ⟨⟨xs, s⟩, f _ _ _ _ itrel_list c1 l1 t1⟩⟩
    · exact t1.elim
  · rename_i ds
    obtain ⟨a, xs, rfl, s, r⟩ := r1.tup_inv
    exact ⟨a, rfl, .inr ⟨⟨xs, s⟩, f _ _ _ _ (itrel_tup s r) c1 l1 t1⟩⟩
  · exact t1.elim
end
/-! ### methods of lists -/
section
variable {X : Cx} {e o : Expr} {es : List Expr} {to : TE3} {ts : TA3} {apos cpos : Pos}
theorem ty_list (K : PySem.W.Frag) : ∀ G H x v, Con K G H → RelD K H x v → tyD G "list" x → tyV K "list" v H := by
  intro G H x v c r t
  cases x with
  | ref a =>
    cases r.ref_inv
    cases e : G a with
    | none => simp [tyD, e] at t
    | some o =>
      cases o with
      | lst ds => obtain ⟨xs, s, _⟩ := sql_of (ds := ds) c (by rw [e]; rfl); exact .inl ⟨rfl, xs, s⟩
      | fro ds => obtain ⟨xs, s, _⟩ := sql_of (ds := ds) c (by rw [e]; rfl); exact .inl ⟨rfl, xs, s⟩
      | dic _ => simp [tyD, e] at t
      | ins _ _ => simp [tyD, e] at t
  | str _ => simp [tyD] at t
  | int _ => simp [tyD] at t
  | _ => exact t.elim
noncomputable def mAppend : M3 := fun x ds G q => match x, ds with
  | .ref a, [d] => (match G a with | some (.lst xs) => xs.length < sizeLine ∧ q .non (gup G a (.lst (xs ++ [d]))) | _ => False)
  | _, _ => False
theorem e_append (ho : E3 X o to) (ha : A3 X (e :: es) ts) (hbase : attributeBase o "append" X.env (eval o X.env) = eval o X.env := by rfl)
    (hfew : ((backTo cpos (starEach (e :: es) X.env)).all (fun x => !x.1) && (backToKw cpos (keywordEach [] X.env)).all (fun x => x.1.isSome)
      && decide ((e :: es).length + ([] : List Keyword).length + (if ([] : List Keyword).isEmpty then 0 else 1) < 30)) = true := by rfl)
    (hline : (apos.endLine == cpos.line) = true := by rfl) (hs : starEach (e :: es) X.env = (false, eval e X.env) :: starEach es X.env := by rfl) (hplain : (backTo cpos (starEach es X.env)).any (·.1) = false := by rfl) :
    E3 X (.Call (.Attribute o "append" apos) (e :: es) [] cpos) (dBM "list" mAppend to ts) :=
  weakE (pe_bm PySem.F.plainAttrs_list PySem.F.slot_list_append PySem.F.type_list_append (weakMt (r' := lowM X.K mAppend) mt_append <| by
    rintro x xs H Q ⟨d, ds, G, q, r1, r2, c, t, f⟩
    unfold mAppend at t
    split at t
    · rename_i a d'
      split at t
      · rename_i ys ea
        cases r1.ref_inv
        obtain ⟨v, rfl, rv⟩ := r2.one
        obtain ⟨zs, h1, q1⟩ := c _ _ ea
        exact ⟨a, zs, v, rfl, rfl, h1, by rw [← q1.length]; exact t.1, f _ _ _ _ RelD.nonI (c.lstSet h1 (q1.append (.cons rv .nil))) (Le.lst h1) t.2⟩
      · exact t.elim
    · exact t.elim) ho ha hbase hfew hline hs hplain) fun _ _ _ => low_bm (ty_list X.K)
noncomputable def mExtend : M3 := fun x ds G q => match x, ds with
  | .ref a, [.ref b] => (match G a, G b with | some (.lst xs), some (.lst ys) => xs.length + ys.length ≤ sizeLine ∧ q .non (gup G a (.lst (xs ++ ys))) | _, _ => False)
  | _, _ => False
noncomputable def mPop0 : M3 := fun x ds G q => match x, ds with
  | .ref a, [] => (match G a with | some (.lst xs) => (match xs[xs.length - 1]? with | some y => q y (gup G a (.lst xs.dropLast)) | none => False) | _ => False)
  | _, _ => False
noncomputable def mClear0 : M3 := fun x ds G q => match x, ds with
  | .ref a, [] => (match G a with | some (.lst _) => q .non (gup G a (.lst [])) | _ => False)
  | _, _ => False
end
/-! ### ==, != -/
noncomputable def xEqB (neg : Bool) : R3 := fun x y G q => match x, y with
  | .int i, .int j => q (.bl (if neg then !decide (i = j) else decide (i = j))) G
  | .str i, .str j => q (.bl (if neg then !decide (i = j) else decide (i = j))) G
  | .bl i, .bl j => q (.bl (if neg then !decide (i = j) else decide (i = j))) G
  | .non, .non => q (.bl (!neg)) G
  | .non, .int _ => q (.bl neg) G
  | .int _, .non => q (.bl neg) G
  | .non, .bl _ => q (.bl neg) G
  | .bl _, .non => q (.bl neg) G
  | .non, .str _ => q (.bl neg) G
  | .str _, .non => q (.bl neg) G
  | .int _, .str _ => q (.bl neg) G
  | .str _, .int _ => q (.bl neg) G
  | .tup xs, .tup ys => ∃ n sd se b, n ≤ 40 ∧ snap G n (.tup xs) = some sd ∧ snap G n (.tup ys) = some se ∧ eqN n sd se = some b ∧ q (.bl (if neg then !b else b)) G
  | .ref a, .ref c => ∃ n sd se b, n ≤ 40 ∧ snap G n (.ref a) = some sd ∧ snap G n (.ref c) = some se ∧ eqN n sd se = some b ∧ q (.bl (if neg then !b else b)) G
  | _, _ => False

section
variable {X : Cx} {k : Nat}
theorem dec_int' {i j : Int} : decide (V.int i = V.int j) = decide (i = j) := by
  by_cases h : i = j
  · subst h; simp
  · simp [h]
theorem dec_str' {i j : Str} : decide (V.str i = V.str j) = decide (i = j) := by
  by_cases h : i = j
  · subst h; simp
  · simp [h]
theorem snap_nonflat_tup {G : Gp} {n : Nat} {xs : List D} {sd : Sn} (h : snap G n (.tup xs) = some sd) : flatS sd = false := by
  obtain ⟨_, _, _, rfl, _⟩ := snap_tup h; rfl
theorem snap_nonflat_ref {G : Gp} {n : Nat} {a : Addr} {sd : Sn} (h : snap G n (.ref a) = some sd) : flatS sd = false := by
  obtain ⟨_, _, _, _, rfl, _⟩ := snap_ref h; rfl
theorem x_eq (hr : Room k X.A) : Op3 X (compareOp .Eq) (xEqB false) := weakOp (op_eq.or (op_eqD hr)) <| by
  rintro x y H Q ⟨d, e, G, q, r1, r2, c, t, f⟩
  have fin : ∀ b, q (.bl b) G → Q (.bl b) H := fun b z => f _ _ _ _ RelD.blI c (Le.refl H) z
  unfold xEqB at t
  split at t
  · cases r1.int_inv; cases r2.int_inv; exact .inl ⟨rfl, by rw [dec_int']; exact fin _ t⟩
  · cases r1.str_inv; cases r2.str_inv; exact .inl ⟨rfl, by rw [dec_str']; exact fin _ t⟩
  · cases r1.bl_inv; cases r2.bl_inv; exact .inl ⟨rfl, by rw [dec_blbl]; exact fin _ t⟩
  · cases r1.non_inv; cases r2.non_inv; exact .inl ⟨rfl, fin _ t⟩
  · cases r1.non_inv; cases r2.int_inv; exact .inl ⟨rfl, fin _ t⟩
  · cases r1.int_inv; cases r2.non_inv; exact .inl ⟨rfl, fin _ t⟩
  · cases r1.non_inv; cases r2.bl_inv; exact .inl ⟨rfl, fin _ t⟩
  · cases r1.bl_inv; cases r2.non_inv; exact .inl ⟨rfl, fin _ t⟩
  · cases r1.non_inv; cases r2.str_inv; exact .inl ⟨rfl, fin _ t⟩
  · cases r1.str_inv; cases r2.non_inv; exact .inl ⟨rfl, fin _ t⟩
  · cases r1.int_inv; cases r2.str_inv; exact .inl ⟨rfl, fin _ t⟩
  · cases r1.str_inv; cases r2.int_inv; exact .inl ⟨rfl, fin _ t⟩
  · obtain ⟨n, sd, se, b, hn, h1, h2, hb, t⟩ := t
    exact .inr ⟨_, _, G, n, sd, se, b, r1, r2, c, hn, h1, h2, hb, snap_nonflat_tup h1, fin _ t⟩
  · obtain ⟨n, sd, se, b, hn, h1, h2, hb, t⟩ := t
    exact .inr ⟨_, _, G, n, sd, se, b, r1, r2, c, hn, h1, h2, hb, snap_nonflat_ref h1, fin _ t⟩
  · exact t.elim
theorem x_ne (hr : Room k X.A) : Op3 X (compareOp .NotEq) (xEqB true) := weakOp (op_ne.or (op_neD hr)) <| by
  rintro x y H Q ⟨d, e, G, q, r1, r2, c, t, f⟩
  have fin : ∀ b, q (.bl b) G → Q (.bl b) H := fun b z => f _ _ _ _ RelD.blI c (Le.refl H) z
  unfold xEqB at t
  split at t
  · cases r1.int_inv; cases r2.int_inv; exact .inl ⟨rfl, by rw [dec_int']; exact fin _ t⟩
  · cases r1.str_inv; cases r2.str_inv; exact .inl ⟨rfl, by rw [dec_str']; exact fin _ t⟩
  · cases r1.bl_inv; cases r2.bl_inv; exact .inl ⟨rfl, by rw [dec_blbl]; exact fin _ t⟩
  · cases r1.non_inv; cases r2.non_inv; exact .inl ⟨rfl, fin _ t⟩
  · cases r1.non_inv; cases r2.int_inv; exact .inl ⟨rfl, fin _ t⟩
  · cases r1.int_inv; cases r2.non_inv; exact .inl ⟨rfl, fin _ t⟩
  · cases r1.non_inv; cases r2.bl_inv; exact .inl ⟨rfl, fin _ t⟩
  · cases r1.bl_inv; cases r2.non_inv; exact .inl ⟨rfl, fin _ t⟩
  · cases r1.non_inv; cases r2.str_inv; exact .inl ⟨rfl, fin _ t⟩
  · cases r1.str_inv; cases r2.non_inv; exact .inl ⟨rfl, fin _ t⟩
  · cases r1.int_inv; cases r2.str_inv; exact .inl ⟨rfl, fin _ t⟩
  · cases r1.str_inv; cases r2.int_inv; exact .inl ⟨rfl, fin _ t⟩
  · obtain ⟨n, sd, se, b, hn, h1, h2, hb, t⟩ := t
    exact .inr ⟨_, _, G, n, sd, se, b, r1, r2, c, hn, h1, h2, hb, snap_nonflat_tup h1, fin _ t⟩
  · obtain ⟨n, sd, se, b, hn, h1, h2, hb, t⟩ := t
    exact .inr ⟨_, _, G, n, sd, se, b, r1, r2, c, hn, h1, h2, hb, snap_nonflat_ref h1, fin _ t⟩
  · exact t.elim
end
end L3

namespace L3
open PySem PySem.Spec PyProof.Rows L2
set_option maxHeartbeats 4000000
section
variable {X : Cx} {e : Expr} {es : List Expr} {p pos : Pos} {ts : TA3} {k : Nat} {S : Sp3} {x m qual : Str} {st : Stmt} {ps : List Str} {C : Addr}
theorem emk {xi qi : Str} {d : FnAt X.K xi qi st ps} (M : Mk X.K C d.a) (hm : X.mg x = some (.ref C)) (G : FnOk X.prog X.w X.K X.mg X.base CX0 k d.a d.fd ps (lowSp X.K S)) (hr : Room (k + 1) X.A) (ha : A3 X (e :: es) ts) (hg : Gl X x := by rfl) (hdb : (x == ("__debug__" : Str)) = false := by decide)
    (he : starEach (e :: es) X.env = (false, eval e X.env) :: starEach es X.env := by rfl) (hpl : (backTo pos (starEach es X.env)).any (·.1) = false := by rfl) : E3 X (.Call (.Name x p) (e :: es) [] pos) (dMake C S [] ts) :=
  e_make M G hr hg hm d.b .nil (fun _ => .nil) ha hdb he hpl
end
section
variable {X : Cx} {e : Expr} {es : List Expr} {p pos : Pos} {ts : TA3} {k : Nat} {S : Sp3} {x m qual : Str} {st : Stmt} {ps : List Str} {C f : Addr} {fd : FuncData}
/-- C(..) with the last parameter by its default, an int -/
theorem emkd {i : Int} (M : Mk X.K C f) (hm : X.mg x = some (.ref C)) (hd : ∃ t, Binds X.K fd ps [.int i t]) (G : FnOk X.prog X.w X.K X.mg X.base CX0 k f fd ps (lowSp X.K S)) (hr : Room (k + 1) X.A) (ha : A3 X (e :: es) ts) (hg : Gl X x := by rfl) (hdb : (x == ("__debug__" : Str)) = false := by decide)
    (he : starEach (e :: es) X.env = (false, eval e X.env) :: starEach es X.env := by rfl) (hpl : (backTo pos (starEach es X.env)).any (·.1) = false := by rfl) : E3 X (.Call (.Name x p) (e :: es) [] pos) (dMake C S [.int i] ts) := by
  obtain ⟨t, hb⟩ := hd
  exact e_make (dvs := [.int i]) M G hr hg hm hb (.cons ⟨t, rfl⟩ .nil) (fun _ => .cons RelD.intI .nil) ha hdb he hpl
theorem e_const {i : Int} (h : ∃ t, X.mg x = some (.int i t)) (hg : Gl X x := by rfl) (hdb : (x == ("__debug__" : Str)) = false := by decide) : E3 X (.Name x pos) (dC (.int i)) := by
  obtain ⟨t, h⟩ := h
  exact e_glob hg h (v := .int i) ⟨t, rfl⟩ (fun _ => RelD.intI) hdb
end
/-! ### readings: small words -/
theorem ite_b {b : Bool} {A B : Prop} (h1 : b = true → A) (h2 : b = false → B) : if b = true then A else B := by
  cases b
  · simpa using h2 rfl
  · simpa using h1 rfl
theorem ite_d {c A B : Prop} [Decidable c] (h1 : c → A) (h2 : ¬ c → B) : if decide c = true then A else B := by
  by_cases h : c
  · simpa [h] using h1 h
  · simpa [h] using h2 h
theorem seqOf_lst {xs : List D} : seqOf (some (.lst xs)) = some xs := rfl
theorem seqOf_fro {xs : List D} : seqOf (some (.fro xs)) = some xs := rfl

theorem atI_0 {α : Type} {x : α} {xs : List α} : atI (x :: xs) 0 = some x := atI_nat (j := 0) rfl
theorem atI_1 {α : Type} {x y : α} {xs : List α} : atI (x :: y :: xs) 1 = some y := atI_nat (j := 1) rfl
theorem atI_2 {α : Type} {x y z : α} {xs : List α} : atI (x :: y :: z :: xs) 2 = some z := atI_nat (j := 2) rfl
theorem atI_3 {α : Type} {x y z u : α} {xs : List α} : atI (x :: y :: z :: u :: xs) 3 = some u := atI_nat (j := 3) rfl
theorem atI_4 {α : Type} {x y z u v : α} {xs : List α} : atI (x :: y :: z :: u :: v :: xs) 4 = some v := atI_nat (j := 4) rfl
theorem ixN_30 : ixN 3 0 = some 0 := rfl
theorem ixN_31 : ixN 3 1 = some 1 := rfl
theorem ixN_32 : ixN 3 2 = some 2 := rfl
theorem ixN_20 : ixN 2 0 = some 0 := rfl
theorem ixN_21 : ixN 2 1 = some 1 := rfl
theorem ixN_of {n j : Nat} (h : j < n) : ixN n (j : Int) = some j := by
  unfold ixN
  rw [if_pos (by omega), if_pos (by omega)]
  simp
theorem ixN_int {n : Nat} {i : Int} (h0 : 0 ≤ i) (h : i < n) : ixN n i = some i.toNat := by
  unfold ixN
  rw [if_pos h0, if_pos h]
theorem atI_int {α : Type} {xs : List α} {i : Int} (h0 : 0 ≤ i) (h : i < xs.length) : atI xs i = some (xs[i.toNat]'(by omega)) := by
  unfold atI
  rw [ixN_int h0 h]
  exact List.getElem?_eq_getElem _
theorem atI_map {α β : Type} {f : α → β} {xs : List α} {i : Int} (h0 : 0 ≤ i) (h : i < xs.length) : atI (xs.map f) i = some (f (xs[i.toNat]'(by omega))) := by
  rw [atI_int h0 (by simpa using h)]
  simp
theorem cmul_l {i j : Int} (h0 : 0 ≤ i) (h : i < 18446744073709551616) : CMul i j := .inl ⟨by omega, by omega⟩
theorem cpow_2 {j : Int} (h0 : 0 ≤ j) (h : j ≤ 1000) : CPow 2 j := ⟨h0, by omega, by decide⟩
theorem cpow_1 {j : Int} (h0 : 0 ≤ j) (h : j ≤ 1000) : CPow 1 j := ⟨h0, by omega, by decide⟩
end L3
namespace L3
theorem call_det {S : Sp3} {ds : List D} {G G1 : Gp} {v : D} {q : DK} (h : ∀ R : DK, R v G1 → S ds G R) (k : q v G1) : ∃ R, S ds G R ∧ ∀ d G', R d G' → q d G' :=
  ⟨fun d G' => d = v ∧ G' = G1, h _ ⟨rfl, rfl⟩, fun _ _ ⟨e1, e2⟩ => by subst e1; subst e2; exact k⟩
theorem call_nd {S : Sp3} {ds : List D} {G : Gp} {post : DK} {q : DK} (h : ∀ R : DK, (∀ d G', post d G' → R d G') → S ds G R) (k : ∀ d G', post d G' → q d G') : ∃ R, S ds G R ∧ ∀ d G', R d G' → q d G' :=
  ⟨post, h _ fun _ _ z => z, k⟩
end L3
namespace L3
theorem forL_ind {ok : Gp → Prop} {g : TG3} {tb : TS3} {E : Ends3} (I : List D → DSt → Gp → Prop) {items : List D} {σ : DSt} {G : Gp} (h0 : I items σ G) (nil : ∀ σ G, I [] σ G → ok G ∧ E.nx σ G)
    (cons : ∀ x r σ G, I (x :: r) σ G → (∀ σ' G', I r σ' G' → forL ok g tb E r σ' G') → ok G ∧ g x σ G fun σ1 G1 => tb { E with nx := forL ok g tb E r, ct := forL ok g tb E r, bk := E.nx } σ1 G1) : forL ok g tb E items σ G := by
  induction items generalizing σ G with
  | nil => exact nil σ G h0
  | cons x r ih => exact cons x r σ G h0 fun σ' G' h => ih h
theorem compL_ind {ok : Gp → Prop} {g : TG3} {tc : TT3} {te : TE3} {p : PySem.Addr} {q : DK} (I : List D → DSt → Gp → Prop) {items : List D} {σ : DSt} {G : Gp} (h0 : I items σ G) (nil : ∀ σ G, I [] σ G → ok G ∧ q (.ref p) G)
    (cons : ∀ x r σ G, I (x :: r) σ G → (∀ σ' G', I r σ' G' → compL ok g tc te p q r σ' G') → ok G ∧ g x σ G fun σ2 G2 => tc σ2 G2 fun b G3 =>
      if b = true then te σ2 G3 fun d G4 => (match G4 p with | some (.lst ys) => ys.length < PySem.sizeLine ∧ compL ok g tc te p q r σ2 (gup G4 p (.lst (ys ++ [d]))) | _ => False)
      else compL ok g tc te p q r σ2 G3) : compL ok g tc te p q items σ G := by
  induction items generalizing σ G with
  | nil => exact nil σ G h0
  | cons x r ih => exact cons x r σ G h0 fun σ' G' h => ih h
theorem while_ind {c : TT3} {tb : TS3} {E : Ends3} (I : Nat → DSt → Gp → Prop) {m : Nat} {σ : DSt} {G : Gp} (h0 : I m σ G)
    (step : ∀ m σ G N, I m σ G → (∀ σ' G' m', m = m' + 1 → I m' σ' G' → N σ' G') → c σ G fun b G1 => if b = true then tb { E with nx := N, ct := N, bk := E.nx } σ G1 else E.nx σ G1) : dWhile c tb E σ G := by
  refine ⟨m + 1, ?_⟩
  induction m generalizing σ G with
  | zero => exact step 0 σ G (whN c tb E 0) h0 fun σ' G' m' e => absurd e (by omega)
  | succ m ih => exact step (m + 1) σ G (whN c tb E (m + 1)) h0 fun σ' G' m' e h => ih (by cases e; exact h)
end L3

namespace L3
open PySem
theorem sn_add_take : (("add" : Str) = "take") = False := eq_false (by decide +kernel)
theorem sn_add_turn : (("add" : Str) = "turn") = False := eq_false (by decide +kernel)
theorem sn_add_swap : (("add" : Str) = "swap") = False := eq_false (by decide +kernel)
theorem sn_add_go : (("add" : Str) = "go") = False := eq_false (by decide +kernel)
theorem sn_add_come : (("add" : Str) = "come") = False := eq_false (by decide +kernel)
theorem sn_add_box : (("add" : Str) = "box") = False := eq_false (by decide +kernel)
theorem sn_add_num : (("add" : Str) = "num") = False := eq_false (by decide +kernel)
theorem sn_take_add : (("take" : Str) = "add") = False := eq_false (by decide +kernel)
theorem sn_take_turn : (("take" : Str) = "turn") = False := eq_false (by decide +kernel)
theorem sn_take_swap : (("take" : Str) = "swap") = False := eq_false (by decide +kernel)
theorem sn_take_go : (("take" : Str) = "go") = False := eq_false (by decide +kernel)
theorem sn_take_come : (("take" : Str) = "come") = False := eq_false (by decide +kernel)
theorem sn_take_box : (("take" : Str) = "box") = False := eq_false (by decide +kernel)
theorem sn_take_num : (("take" : Str) = "num") = False := eq_false (by decide +kernel)
theorem sn_turn_add : (("turn" : Str) = "add") = False := eq_false (by decide +kernel)
theorem sn_turn_take : (("turn" : Str) = "take") = False := eq_false (by decide +kernel)
theorem sn_turn_swap : (("turn" : Str) = "swap") = False := eq_false (by decide +kernel)
theorem sn_turn_go : (("turn" : Str) = "go") = False := eq_false (by decide +kernel)
theorem sn_turn_come : (("turn" : Str) = "come") = False := eq_false (by decide +kernel)
theorem sn_turn_box : (("turn" : Str) = "box") = False := eq_false (by decide +kernel)
theorem sn_turn_num : (("turn" : Str) = "num") = False := eq_false (by decide +kernel)
theorem sn_swap_add : (("swap" : Str) = "add") = False := eq_false (by decide +kernel)
theorem sn_swap_take : (("swap" : Str) = "take") = False := eq_false (by decide +kernel)
theorem sn_swap_turn : (("swap" : Str) = "turn") = False := eq_false (by decide +kernel)
theorem sn_swap_go : (("swap" : Str) = "go") = False := eq_false (by decide +kernel)
theorem sn_swap_come : (("swap" : Str) = "come") = False := eq_false (by decide +kernel)
theorem sn_swap_box : (("swap" : Str) = "box") = False := eq_false (by decide +kernel)
theorem sn_swap_num : (("swap" : Str) = "num") = False := eq_false (by decide +kernel)
theorem sn_go_add : (("go" : Str) = "add") = False := eq_false (by decide +kernel)
theorem sn_go_take : (("go" : Str) = "take") = False := eq_false (by decide +kernel)
theorem sn_go_turn : (("go" : Str) = "turn") = False := eq_false (by decide +kernel)
theorem sn_go_swap : (("go" : Str) = "swap") = False := eq_false (by decide +kernel)
theorem sn_go_come : (("go" : Str) = "come") = False := eq_false (by decide +kernel)
theorem sn_go_box : (("go" : Str) = "box") = False := eq_false (by decide +kernel)
theorem sn_go_num : (("go" : Str) = "num") = False := eq_false (by decide +kernel)
theorem sn_come_add : (("come" : Str) = "add") = False := eq_false (by decide +kernel)
theorem sn_come_take : (("come" : Str) = "take") = False := eq_false (by decide +kernel)
theorem sn_come_turn : (("come" : Str) = "turn") = False := eq_false (by decide +kernel)
theorem sn_come_swap : (("come" : Str) = "swap") = False := eq_false (by decide +kernel)
theorem sn_come_go : (("come" : Str) = "go") = False := eq_false (by decide +kernel)
theorem sn_come_box : (("come" : Str) = "box") = False := eq_false (by decide +kernel)
theorem sn_come_num : (("come" : Str) = "num") = False := eq_false (by decide +kernel)
theorem sn_box_add : (("box" : Str) = "add") = False := eq_false (by decide +kernel)
theorem sn_box_take : (("box" : Str) = "take") = False := eq_false (by decide +kernel)
theorem sn_box_turn : (("box" : Str) = "turn") = False := eq_false (by decide +kernel)
theorem sn_box_swap : (("box" : Str) = "swap") = False := eq_false (by decide +kernel)
theorem sn_box_go : (("box" : Str) = "go") = False := eq_false (by decide +kernel)
theorem sn_box_come : (("box" : Str) = "come") = False := eq_false (by decide +kernel)
theorem sn_box_num : (("box" : Str) = "num") = False := eq_false (by decide +kernel)
theorem sn_num_add : (("num" : Str) = "add") = False := eq_false (by decide +kernel)
theorem sn_num_take : (("num" : Str) = "take") = False := eq_false (by decide +kernel)
theorem sn_num_turn : (("num" : Str) = "turn") = False := eq_false (by decide +kernel)
theorem sn_num_swap : (("num" : Str) = "swap") = False := eq_false (by decide +kernel)
theorem sn_num_go : (("num" : Str) = "go") = False := eq_false (by decide +kernel)
theorem sn_num_come : (("num" : Str) = "come") = False := eq_false (by decide +kernel)
theorem sn_num_box : (("num" : Str) = "box") = False := eq_false (by decide +kernel)
theorem sn_rows_held : (("rows" : Str) = "held") = False := eq_false (by decide +kernel)
theorem sb_rows_held : (("rows" : Str) == "held") = false := by decide +kernel
theorem sn_rows_spot : (("rows" : Str) = "spot") = False := eq_false (by decide +kernel)
theorem sb_rows_spot : (("rows" : Str) == "spot") = false := by decide +kernel
theorem sn_rows_place : (("rows" : Str) = "place") = False := eq_false (by decide +kernel)
theorem sb_rows_place : (("rows" : Str) == "place") = false := by decide +kernel
theorem sn_rows_boxes : (("rows" : Str) = "boxes") = False := eq_false (by decide +kernel)
theorem sb_rows_boxes : (("rows" : Str) == "boxes") = false := by decide +kernel
theorem sn_rows_forth : (("rows" : Str) = "forth") = False := eq_false (by decide +kernel)
theorem sb_rows_forth : (("rows" : Str) == "forth") = false := by decide +kernel
theorem sn_rows_back : (("rows" : Str) = "back") = False := eq_false (by decide +kernel)
theorem sb_rows_back : (("rows" : Str) == "back") = false := by decide +kernel
theorem sn_rows_at_end : (("rows" : Str) = "at_end") = False := eq_false (by decide +kernel)
theorem sb_rows_at_end : (("rows" : Str) == "at_end") = false := by decide +kernel
theorem sn_rows_at_begin : (("rows" : Str) = "at_begin") = False := eq_false (by decide +kernel)
theorem sb_rows_at_begin : (("rows" : Str) == "at_begin") = false := by decide +kernel
theorem sn_rows_may_forth : (("rows" : Str) = "may_forth") = False := eq_false (by decide +kernel)
theorem sb_rows_may_forth : (("rows" : Str) == "may_forth") = false := by decide +kernel
theorem sn_rows_may_back : (("rows" : Str) = "may_back") = False := eq_false (by decide +kernel)
theorem sb_rows_may_back : (("rows" : Str) == "may_back") = false := by decide +kernel
theorem sn_held_rows : (("held" : Str) = "rows") = False := eq_false (by decide +kernel)
theorem sb_held_rows : (("held" : Str) == "rows") = false := by decide +kernel
theorem sn_held_spot : (("held" : Str) = "spot") = False := eq_false (by decide +kernel)
theorem sb_held_spot : (("held" : Str) == "spot") = false := by decide +kernel
theorem sn_held_place : (("held" : Str) = "place") = False := eq_false (by decide +kernel)
theorem sb_held_place : (("held" : Str) == "place") = false := by decide +kernel
theorem sn_held_boxes : (("held" : Str) = "boxes") = False := eq_false (by decide +kernel)
theorem sb_held_boxes : (("held" : Str) == "boxes") = false := by decide +kernel
theorem sn_held_forth : (("held" : Str) = "forth") = False := eq_false (by decide +kernel)
theorem sb_held_forth : (("held" : Str) == "forth") = false := by decide +kernel
theorem sn_held_back : (("held" : Str) = "back") = False := eq_false (by decide +kernel)
theorem sb_held_back : (("held" : Str) == "back") = false := by decide +kernel
theorem sn_held_at_end : (("held" : Str) = "at_end") = False := eq_false (by decide +kernel)
theorem sb_held_at_end : (("held" : Str) == "at_end") = false := by decide +kernel
theorem sn_held_at_begin : (("held" : Str) = "at_begin") = False := eq_false (by decide +kernel)
theorem sb_held_at_begin : (("held" : Str) == "at_begin") = false := by decide +kernel
theorem sn_held_may_forth : (("held" : Str) = "may_forth") = False := eq_false (by decide +kernel)
theorem sb_held_may_forth : (("held" : Str) == "may_forth") = false := by decide +kernel
theorem sn_held_may_back : (("held" : Str) = "may_back") = False := eq_false (by decide +kernel)
theorem sb_held_may_back : (("held" : Str) == "may_back") = false := by decide +kernel
theorem sn_spot_rows : (("spot" : Str) = "rows") = False := eq_false (by decide +kernel)
theorem sb_spot_rows : (("spot" : Str) == "rows") = false := by decide +kernel
theorem sn_spot_held : (("spot" : Str) = "held") = False := eq_false (by decide +kernel)
theorem sb_spot_held : (("spot" : Str) == "held") = false := by decide +kernel
theorem sn_spot_place : (("spot" : Str) = "place") = False := eq_false (by decide +kernel)
theorem sb_spot_place : (("spot" : Str) == "place") = false := by decide +kernel
theorem sn_spot_boxes : (("spot" : Str) = "boxes") = False := eq_false (by decide +kernel)
theorem sb_spot_boxes : (("spot" : Str) == "boxes") = false := by decide +kernel
theorem sn_spot_forth : (("spot" : Str) = "forth") = False := eq_false (by decide +kernel)
theorem sb_spot_forth : (("spot" : Str) == "forth") = false := by decide +kernel
theorem sn_spot_back : (("spot" : Str) = "back") = False := eq_false (by decide +kernel)
theorem sb_spot_back : (("spot" : Str) == "back") = false := by decide +kernel
theorem sn_spot_at_end : (("spot" : Str) = "at_end") = False := eq_false (by decide +kernel)
theorem sb_spot_at_end : (("spot" : Str) == "at_end") = false := by decide +kernel
theorem sn_spot_at_begin : (("spot" : Str) = "at_begin") = False := eq_false (by decide +kernel)
theorem sb_spot_at_begin : (("spot" : Str) == "at_begin") = false := by decide +kernel
theorem sn_spot_may_forth : (("spot" : Str) = "may_forth") = False := eq_false (by decide +kernel)
theorem sb_spot_may_forth : (("spot" : Str) == "may_forth") = false := by decide +kernel
theorem sn_spot_may_back : (("spot" : Str) = "may_back") = False := eq_false (by decide +kernel)
theorem sb_spot_may_back : (("spot" : Str) == "may_back") = false := by decide +kernel
theorem sn_place_rows : (("place" : Str) = "rows") = False := eq_false (by decide +kernel)
theorem sb_place_rows : (("place" : Str) == "rows") = false := by decide +kernel
theorem sn_place_held : (("place" : Str) = "held") = False := eq_false (by decide +kernel)
theorem sb_place_held : (("place" : Str) == "held") = false := by decide +kernel
theorem sn_place_spot : (("place" : Str) = "spot") = False := eq_false (by decide +kernel)
theorem sb_place_spot : (("place" : Str) == "spot") = false := by decide +kernel
theorem sn_place_boxes : (("place" : Str) = "boxes") = False := eq_false (by decide +kernel)
theorem sb_place_boxes : (("place" : Str) == "boxes") = false := by decide +kernel
theorem sn_place_forth : (("place" : Str) = "forth") = False := eq_false (by decide +kernel)
theorem sb_place_forth : (("place" : Str) == "forth") = false := by decide +kernel
theorem sn_place_back : (("place" : Str) = "back") = False := eq_false (by decide +kernel)
theorem sb_place_back : (("place" : Str) == "back") = false := by decide +kernel
theorem sn_place_at_end : (("place" : Str) = "at_end") = False := eq_false (by decide +kernel)
theorem sb_place_at_end : (("place" : Str) == "at_end") = false := by decide +kernel
theorem sn_place_at_begin : (("place" : Str) = "at_begin") = False := eq_false (by decide +kernel)
theorem sb_place_at_begin : (("place" : Str) == "at_begin") = false := by decide +kernel
theorem sn_place_may_forth : (("place" : Str) = "may_forth") = False := eq_false (by decide +kernel)
theorem sb_place_may_forth : (("place" : Str) == "may_forth") = false := by decide +kernel
theorem sn_place_may_back : (("place" : Str) = "may_back") = False := eq_false (by decide +kernel)
theorem sb_place_may_back : (("place" : Str) == "may_back") = false := by decide +kernel
theorem sn_boxes_rows : (("boxes" : Str) = "rows") = False := eq_false (by decide +kernel)
theorem sb_boxes_rows : (("boxes" : Str) == "rows") = false := by decide +kernel
theorem sn_boxes_held : (("boxes" : Str) = "held") = False := eq_false (by decide +kernel)
theorem sb_boxes_held : (("boxes" : Str) == "held") = false := by decide +kernel
theorem sn_boxes_spot : (("boxes" : Str) = "spot") = False := eq_false (by decide +kernel)
theorem sb_boxes_spot : (("boxes" : Str) == "spot") = false := by decide +kernel
theorem sn_boxes_place : (("boxes" : Str) = "place") = False := eq_false (by decide +kernel)
theorem sb_boxes_place : (("boxes" : Str) == "place") = false := by decide +kernel
theorem sn_boxes_forth : (("boxes" : Str) = "forth") = False := eq_false (by decide +kernel)
theorem sb_boxes_forth : (("boxes" : Str) == "forth") = false := by decide +kernel
theorem sn_boxes_back : (("boxes" : Str) = "back") = False := eq_false (by decide +kernel)
theorem sb_boxes_back : (("boxes" : Str) == "back") = false := by decide +kernel
theorem sn_boxes_at_end : (("boxes" : Str) = "at_end") = False := eq_false (by decide +kernel)
theorem sb_boxes_at_end : (("boxes" : Str) == "at_end") = false := by decide +kernel
theorem sn_boxes_at_begin : (("boxes" : Str) = "at_begin") = False := eq_false (by decide +kernel)
theorem sb_boxes_at_begin : (("boxes" : Str) == "at_begin") = false := by decide +kernel
theorem sn_boxes_may_forth : (("boxes" : Str) = "may_forth") = False := eq_false (by decide +kernel)
theorem sb_boxes_may_forth : (("boxes" : Str) == "may_forth") = false := by decide +kernel
theorem sn_boxes_may_back : (("boxes" : Str) = "may_back") = False := eq_false (by decide +kernel)
theorem sb_boxes_may_back : (("boxes" : Str) == "may_back") = false := by decide +kernel
theorem sn_forth_rows : (("forth" : Str) = "rows") = False := eq_false (by decide +kernel)
theorem sb_forth_rows : (("forth" : Str) == "rows") = false := by decide +kernel
theorem sn_forth_held : (("forth" : Str) = "held") = False := eq_false (by decide +kernel)
theorem sb_forth_held : (("forth" : Str) == "held") = false := by decide +kernel
theorem sn_forth_spot : (("forth" : Str) = "spot") = False := eq_false (by decide +kernel)
theorem sb_forth_spot : (("forth" : Str) == "spot") = false := by decide +kernel
theorem sn_forth_place : (("forth" : Str) = "place") = False := eq_false (by decide +kernel)
theorem sb_forth_place : (("forth" : Str) == "place") = false := by decide +kernel
theorem sn_forth_boxes : (("forth" : Str) = "boxes") = False := eq_false (by decide +kernel)
theorem sb_forth_boxes : (("forth" : Str) == "boxes") = false := by decide +kernel
theorem sn_forth_back : (("forth" : Str) = "back") = False := eq_false (by decide +kernel)
theorem sb_forth_back : (("forth" : Str) == "back") = false := by decide +kernel
theorem sn_forth_at_end : (("forth" : Str) = "at_end") = False := eq_false (by decide +kernel)
theorem sb_forth_at_end : (("forth" : Str) == "at_end") = false := by decide +kernel
theorem sn_forth_at_begin : (("forth" : Str) = "at_begin") = False := eq_false (by decide +kernel)
theorem sb_forth_at_begin : (("forth" : Str) == "at_begin") = false := by decide +kernel
theorem sn_forth_may_forth : (("forth" : Str) = "may_forth") = False := eq_false (by decide +kernel)
theorem sb_forth_may_forth : (("forth" : Str) == "may_forth") = false := by decide +kernel
theorem sn_forth_may_back : (("forth" : Str) = "may_back") = False := eq_false (by decide +kernel)
theorem sb_forth_may_back : (("forth" : Str) == "may_back") = false := by decide +kernel
theorem sn_back_rows : (("back" : Str) = "rows") = False := eq_false (by decide +kernel)
theorem sb_back_rows : (("back" : Str) == "rows") = false := by decide +kernel
theorem sn_back_held : (("back" : Str) = "held") = False := eq_false (by decide +kernel)
theorem sb_back_held : (("back" : Str) == "held") = false := by decide +kernel
theorem sn_back_spot : (("back" : Str) = "spot") = False := eq_false (by decide +kernel)
theorem sb_back_spot : (("back" : Str) == "spot") = false := by decide +kernel
theorem sn_back_place : (("back" : Str) = "place") = False := eq_false (by decide +kernel)
theorem sb_back_place : (("back" : Str) == "place") = false := by decide +kernel
theorem sn_back_boxes : (("back" : Str) = "boxes") = False := eq_false (by decide +kernel)
theorem sb_back_boxes : (("back" : Str) == "boxes") = false := by decide +kernel
theorem sn_back_forth : (("back" : Str) = "forth") = False := eq_false (by decide +kernel)
theorem sb_back_forth : (("back" : Str) == "forth") = false := by decide +kernel
theorem sn_back_at_end : (("back" : Str) = "at_end") = False := eq_false (by decide +kernel)
theorem sb_back_at_end : (("back" : Str) == "at_end") = false := by decide +kernel
theorem sn_back_at_begin : (("back" : Str) = "at_begin") = False := eq_false (by decide +kernel)
theorem sb_back_at_begin : (("back" : Str) == "at_begin") = false := by decide +kernel
theorem sn_back_may_forth : (("back" : Str) = "may_forth") = False := eq_false (by decide +kernel)
theorem sb_back_may_forth : (("back" : Str) == "may_forth") = false := by decide +kernel
theorem sn_back_may_back : (("back" : Str) = "may_back") = False := eq_false (by decide +kernel)
theorem sb_back_may_back : (("back" : Str) == "may_back") = false := by decide +kernel
theorem sn_at_end_rows : (("at_end" : Str) = "rows") = False := eq_false (by decide +kernel)
theorem sb_at_end_rows : (("at_end" : Str) == "rows") = false := by decide +kernel
theorem sn_at_end_held : (("at_end" : Str) = "held") = False := eq_false (by decide +kernel)
theorem sb_at_end_held : (("at_end" : Str) == "held") = false := by decide +kernel
theorem sn_at_end_spot : (("at_end" : Str) = "spot") = False := eq_false (by decide +kernel)
theorem sb_at_end_spot : (("at_end" : Str) == "spot") = false := by decide +kernel
theorem sn_at_end_place : (("at_end" : Str) = "place") = False := eq_false (by decide +kernel)
theorem sb_at_end_place : (("at_end" : Str) == "place") = false := by decide +kernel
theorem sn_at_end_boxes : (("at_end" : Str) = "boxes") = False := eq_false (by decide +kernel)
theorem sb_at_end_boxes : (("at_end" : Str) == "boxes") = false := by decide +kernel
theorem sn_at_end_forth : (("at_end" : Str) = "forth") = False := eq_false (by decide +kernel)
theorem sb_at_end_forth : (("at_end" : Str) == "forth") = false := by decide +kernel
theorem sn_at_end_back : (("at_end" : Str) = "back") = False := eq_false (by decide +kernel)
theorem sb_at_end_back : (("at_end" : Str) == "back") = false := by decide +kernel
theorem sn_at_end_at_begin : (("at_end" : Str) = "at_begin") = False := eq_false (by decide +kernel)
theorem sb_at_end_at_begin : (("at_end" : Str) == "at_begin") = false := by decide +kernel
theorem sn_at_end_may_forth : (("at_end" : Str) = "may_forth") = False := eq_false (by decide +kernel)
theorem sb_at_end_may_forth : (("at_end" : Str) == "may_forth") = false := by decide +kernel
theorem sn_at_end_may_back : (("at_end" : Str) = "may_back") = False := eq_false (by decide +kernel)
theorem sb_at_end_may_back : (("at_end" : Str) == "may_back") = false := by decide +kernel
theorem sn_at_begin_rows : (("at_begin" : Str) = "rows") = False := eq_false (by decide +kernel)
theorem sb_at_begin_rows : (("at_begin" : Str) == "rows") = false := by decide +kernel
theorem sn_at_begin_held : (("at_begin" : Str) = "held") = False := eq_false (by decide +kernel)
theorem sb_at_begin_held : (("at_begin" : Str) == "held") = false := by decide +kernel
theorem sn_at_begin_spot : (("at_begin" : Str) = "spot") = False := eq_false (by decide +kernel)
theorem sb_at_begin_spot : (("at_begin" : Str) == "spot") = false := by decide +kernel
theorem sn_at_begin_place : (("at_begin" : Str) = "place") = False := eq_false (by decide +kernel)
theorem sb_at_begin_place : (("at_begin" : Str) == "place") = false := by decide +kernel
theorem sn_at_begin_boxes : (("at_begin" : Str) = "boxes") = False := eq_false (by decide +kernel)
theorem sb_at_begin_boxes : (("at_begin" : Str) == "boxes") = false := by decide +kernel
theorem sn_at_begin_forth : (("at_begin" : Str) = "forth") = False := eq_false (by decide +kernel)
theorem sb_at_begin_forth : (("at_begin" : Str) == "forth") = false := by decide +kernel
theorem sn_at_begin_back : (("at_begin" : Str) = "back") = False := eq_false (by decide +kernel)
theorem sb_at_begin_back : (("at_begin" : Str) == "back") = false := by decide +kernel
theorem sn_at_begin_at_end : (("at_begin" : Str) = "at_end") = False := eq_false (by decide +kernel)
theorem sb_at_begin_at_end : (("at_begin" : Str) == "at_end") = false := by decide +kernel
theorem sn_at_begin_may_forth : (("at_begin" : Str) = "may_forth") = False := eq_false (by decide +kernel)
theorem sb_at_begin_may_forth : (("at_begin" : Str) == "may_forth") = false := by decide +kernel
theorem sn_at_begin_may_back : (("at_begin" : Str) = "may_back") = False := eq_false (by decide +kernel)
theorem sb_at_begin_may_back : (("at_begin" : Str) == "may_back") = false := by decide +kernel
theorem sn_may_forth_rows : (("may_forth" : Str) = "rows") = False := eq_false (by decide +kernel)
theorem sb_may_forth_rows : (("may_forth" : Str) == "rows") = false := by decide +kernel
theorem sn_may_forth_held : (("may_forth" : Str) = "held") = False := eq_false (by decide +kernel)
theorem sb_may_forth_held : (("may_forth" : Str) == "held") = false := by decide +kernel
theorem sn_may_forth_spot : (("may_forth" : Str) = "spot") = False := eq_false (by decide +kernel)
theorem sb_may_forth_spot : (("may_forth" : Str) == "spot") = false := by decide +kernel
theorem sn_may_forth_place : (("may_forth" : Str) = "place") = False := eq_false (by decide +kernel)
theorem sb_may_forth_place : (("may_forth" : Str) == "place") = false := by decide +kernel
theorem sn_may_forth_boxes : (("may_forth" : Str) = "boxes") = False := eq_false (by decide +kernel)
theorem sb_may_forth_boxes : (("may_forth" : Str) == "boxes") = false := by decide +kernel
theorem sn_may_forth_forth : (("may_forth" : Str) = "forth") = False := eq_false (by decide +kernel)
theorem sb_may_forth_forth : (("may_forth" : Str) == "forth") = false := by decide +kernel
theorem sn_may_forth_back : (("may_forth" : Str) = "back") = False := eq_false (by decide +kernel)
theorem sb_may_forth_back : (("may_forth" : Str) == "back") = false := by decide +kernel
theorem sn_may_forth_at_end : (("may_forth" : Str) = "at_end") = False := eq_false (by decide +kernel)
theorem sb_may_forth_at_end : (("may_forth" : Str) == "at_end") = false := by decide +kernel
theorem sn_may_forth_at_begin : (("may_forth" : Str) = "at_begin") = False := eq_false (by decide +kernel)
theorem sb_may_forth_at_begin : (("may_forth" : Str) == "at_begin") = false := by decide +kernel
theorem sn_may_forth_may_back : (("may_forth" : Str) = "may_back") = False := eq_false (by decide +kernel)
theorem sb_may_forth_may_back : (("may_forth" : Str) == "may_back") = false := by decide +kernel
theorem sn_may_back_rows : (("may_back" : Str) = "rows") = False := eq_false (by decide +kernel)
theorem sb_may_back_rows : (("may_back" : Str) == "rows") = false := by decide +kernel
theorem sn_may_back_held : (("may_back" : Str) = "held") = False := eq_false (by decide +kernel)
theorem sb_may_back_held : (("may_back" : Str) == "held") = false := by decide +kernel
theorem sn_may_back_spot : (("may_back" : Str) = "spot") = False := eq_false (by decide +kernel)
theorem sb_may_back_spot : (("may_back" : Str) == "spot") = false := by decide +kernel
theorem sn_may_back_place : (("may_back" : Str) = "place") = False := eq_false (by decide +kernel)
theorem sb_may_back_place : (("may_back" : Str) == "place") = false := by decide +kernel
theorem sn_may_back_boxes : (("may_back" : Str) = "boxes") = False := eq_false (by decide +kernel)
theorem sb_may_back_boxes : (("may_back" : Str) == "boxes") = false := by decide +kernel
theorem sn_may_back_forth : (("may_back" : Str) = "forth") = False := eq_false (by decide +kernel)
theorem sb_may_back_forth : (("may_back" : Str) == "forth") = false := by decide +kernel
theorem sn_may_back_back : (("may_back" : Str) = "back") = False := eq_false (by decide +kernel)
theorem sb_may_back_back : (("may_back" : Str) == "back") = false := by decide +kernel
theorem sn_may_back_at_end : (("may_back" : Str) = "at_end") = False := eq_false (by decide +kernel)
theorem sb_may_back_at_end : (("may_back" : Str) == "at_end") = false := by decide +kernel
theorem sn_may_back_at_begin : (("may_back" : Str) = "at_begin") = False := eq_false (by decide +kernel)
theorem sb_may_back_at_begin : (("may_back" : Str) == "at_begin") = false := by decide +kernel
theorem sn_may_back_may_forth : (("may_back" : Str) = "may_forth") = False := eq_false (by decide +kernel)
theorem sb_may_back_may_forth : (("may_back" : Str) == "may_forth") = false := by decide +kernel
end L3

namespace Rw
open PySem PyProof.Rows L2 L3
/-! rows of codes, what they do; data -/
inductive Opd where
  | num (n : Int) | box (y : Nat)
inductive Row where
  | add (x : Nat) (o : Opd) | take (x : Nat) (o : Opd) | turn (x i : Nat) (cs : List (Nat × Nat)) | swap (x y : Nat) | go (x : Nat) (n : Int) (k : Nat) | come (x : Nat) (n : Int) (k : Nat)
noncomputable def Opd.d : Opd → D
  | .num n => .tup [.str "num", .int n]
  | .box y => .tup [.str "box", .int (y : Int)]
noncomputable def cd (c : Nat × Nat) : D := .tup [.int (c.1 : Int), .int (c.2 : Int)]
noncomputable def Row.d : Row → D
  | .add x o => .tup [.str "add", .int (x : Int), o.d]
  | .take x o => .tup [.str "take", .int (x : Int), o.d]
  | .turn x i cs => .tup [.str "turn", .int (x : Int), .int (i : Int), .tup (cs.map cd)]
  | .swap x y => .tup [.str "swap", .int (x : Int), .int (y : Int)]
  | .go x n k => .tup [.str "go", .int (x : Int), .int n, .int (k : Int)]
  | .come x n k => .tup [.str "come", .int (x : Int), .int n, .int (k : Int)]
noncomputable def Opd.ok (sz x : Nat) : Opd → Prop
  | .num n => 0 ≤ n ∧ n < 4294967296
  | .box y => y < sz ∧ y ≠ x
noncomputable def Row.ok (sz : Nat) : Row → Prop
  | .add x o => x < sz ∧ o.ok sz x
  | .take x o => x < sz ∧ o.ok sz x
  | .turn x i cs => x < sz ∧ i < 32 ∧ cs.length ≤ 2 ∧ ∀ c ∈ cs, c.1 < sz ∧ c.1 ≠ x ∧ c.2 < 32
  | .swap x y => x < sz ∧ y < sz ∧ y ≠ x
  | .go x n _ => x < sz ∧ 0 ≤ n ∧ n < 4294967296
  | .come x n _ => x < sz ∧ 0 ≤ n ∧ n < 4294967296
noncomputable def Row.plain : Row → Bool
  | .go _ _ _ => false
  | .come _ _ _ => false
  | _ => true
noncomputable def gt (bs : List Int) (x : Nat) : Int := bs.getD x 0
noncomputable def bit (v : Int) (j : Nat) : Int := v / 2 ^ j % 2
noncomputable def flp (v : Int) (i : Nat) : Int := v + 2 ^ i * (1 - 2 * bit v i)
noncomputable def val (bs : List Int) : Opd → Int
  | .num n => n
  | .box y => gt bs y
noncomputable def con (bs : List Int) (cs : List (Nat × Nat)) : Bool := cs.all fun c => !decide (bit (gt bs c.1) c.2 = 0)
noncomputable def stp (s : Int) (bs : List Int) : Row → List Int
  | .add x o => bs.set x ((gt bs x + s * val bs o) % 4294967296)
  | .take x o => bs.set x ((gt bs x - s * val bs o) % 4294967296)
  | .turn x i cs => if con bs cs = true then bs.set x (flp (gt bs x) i) else bs
  | .swap x y => (bs.set x (gt bs y)).set y (gt bs x)
  | .go _ _ _ => bs
  | .come _ _ _ => bs
structure BsOk (sz : Nat) (bs : List Int) : Prop where
  len : bs.length = sz
  rng : ∀ v ∈ bs, 0 ≤ v ∧ v < 4294967296

theorem gt_get {bs : List Int} {x : Nat} (h : x < bs.length) : gt bs x = bs[x] := by unfold gt; rw [List.getD_eq_getElem?_getD, List.getElem?_eq_getElem h]; rfl
theorem gt_rng {sz : Nat} {bs : List Int} {x : Nat} (h : BsOk sz bs) (hx : x < sz) : 0 ≤ gt bs x ∧ gt bs x < 4294967296 := by
  rw [gt_get (by rw [h.len]; exact hx)]; exact h.rng _ (List.getElem_mem _)
theorem gt_set {bs : List Int} {x y : Nat} {v : Int} (h : x < bs.length) : gt (bs.set x v) y = if y = x then v else gt bs y := by
  unfold gt
  rw [List.getD_eq_getElem?_getD, List.getD_eq_getElem?_getD, List.getElem?_set]
  by_cases e : x = y
  · subst e; simp [h]
  · rw [if_neg e, if_neg (Ne.symm e)]
theorem at_map {bs : List Int} {x : Nat} (h : x < bs.length) : atI (bs.map D.int) (x : Int) = some (.int (gt bs x)) := by
  rw [atI_nat (v := .int (gt bs x))]
  rw [List.getElem?_map, List.getElem?_eq_getElem h, gt_get h]; rfl
theorem ix_map {bs : List Int} {x : Nat} (h : x < bs.length) : ixN (bs.map D.int).length (x : Int) = some x := ixN_of (by simpa using h)
theorem setm {bs : List Int} {x : Nat} {v : Int} : (bs.map D.int).set x (.int v) = (bs.set x v).map D.int := by rw [List.map_set]
theorem at_rows {rs : List Row} {x : Nat} {r : Row} (h : rs[x]? = some r) : atI (rs.map Row.d) (x : Int) = some r.d := atI_nat (by rw [List.getElem?_map, h]; rfl)
theorem xor_flp {v : Int} {i : Nat} : Builtin.bitXor v (1 * 2 ^ i) = flp v i := by
  rw [Int.one_mul, bitXor_and, PySem.W.kbt_bit]
  unfold flp bit
  rw [Int.mul_sub, Int.mul_one, Int.mul_comm (2 ^ i) (2 * (v / 2 ^ i % 2)), Int.mul_assoc 2 (v / 2 ^ i % 2) (2 ^ i)]
  omega
theorem and_bit {v : Int} {j : Nat} : Builtin.bitAnd (v / 2 ^ j) 1 = bit v j := by rw [bitAnd_m1]; rfl
theorem bit_01 (v : Int) (j : Nat) : bit v j = 0 ∨ bit v j = 1 := by unfold bit; omega
theorem pow_pos (i : Nat) : (0 : Int) < 2 ^ i := Int.pow_pos (by decide)
/-- a number by its part above bit i, the bit, the part below -/
theorem split_bit (v : Int) (i : Nat) : ∃ a r : Int, v = 2 ^ i * (2 * a + bit v i) + r ∧ 0 ≤ r ∧ r < 2 ^ i := by
  refine ⟨v / 2 ^ i / 2, v % 2 ^ i, ?_, Int.emod_nonneg _ (Int.ne_of_gt (pow_pos i)), Int.emod_lt_of_pos _ (pow_pos i)⟩
  have h1 := Int.mul_ediv_add_emod v (2 ^ i)
  have h2 : 2 * (v / 2 ^ i / 2) + bit v i = v / 2 ^ i := by unfold bit; omega
  rw [h2]; omega
theorem div_of {a r p : Int} (hp : 0 < p) (h0 : 0 ≤ r) (h1 : r < p) : (p * a + r) / p = a := by
  rw [Int.add_comm, Int.add_mul_ediv_left _ _ (Int.ne_of_gt hp), Int.ediv_eq_zero_of_lt h0 h1]; omega
theorem flp_eq (v : Int) (i : Nat) : ∃ a r : Int, v = 2 ^ i * (2 * a + bit v i) + r ∧ flp v i = 2 ^ i * (2 * a + (1 - bit v i)) + r ∧ 0 ≤ r ∧ r < 2 ^ i := by
  obtain ⟨a, r, h, h0, h1⟩ := split_bit v i
  refine ⟨a, r, h, ?_, h0, h1⟩
  have e : flp v i = v + 2 ^ i * (1 - 2 * bit v i) := rfl
  rw [e]
  rcases bit_01 v i with hb | hb
  · rw [hb] at h ⊢
    have : (2 : Int) ^ i * (1 - 2 * 0) = 2 ^ i := by omega
    have e2 : (2 : Int) ^ i * (2 * a + (1 - 0)) = 2 ^ i * (2 * a + 0) + 2 ^ i := by rw [Int.mul_add, Int.mul_add]; omega
    omega
  · rw [hb] at h ⊢
    have : (2 : Int) ^ i * (1 - 2 * 1) = - 2 ^ i := by omega
    have e2 : (2 : Int) ^ i * (2 * a + 1) = 2 ^ i * (2 * a + (1 - 1)) + 2 ^ i := by rw [Int.mul_add, Int.mul_add]; omega
    omega
theorem bit_flp (v : Int) (i : Nat) : bit (flp v i) i = 1 - bit v i := by
  obtain ⟨a, r, h, e, h0, h1⟩ := flp_eq v i
  show flp v i / 2 ^ i % 2 = _
  rw [e, div_of (pow_pos i) h0 h1]
  rcases bit_01 v i with hb | hb <;> rw [hb] <;> omega
theorem flp_flp (v : Int) (i : Nat) : flp (flp v i) i = v := by
  have e : flp (flp v i) i = flp v i + 2 ^ i * (1 - 2 * bit (flp v i) i) := rfl
  rw [e, bit_flp]
  have e2 : flp v i = v + 2 ^ i * (1 - 2 * bit v i) := rfl
  rw [e2]
  have : (1 - 2 * (1 - bit v i)) = -(1 - 2 * bit v i) := by omega
  rw [this, Int.mul_neg]; omega
theorem flp_rng {v : Int} {i : Nat} (hi : i < 32) (h0 : 0 ≤ v) (h1 : v < 4294967296) : 0 ≤ flp v i ∧ flp v i < 4294967296 := by
  obtain ⟨a, r, h, e, r0, r1⟩ := flp_eq v i
  have hp := pow_pos i
  have ha : 0 ≤ a := by
    by_cases q : 0 ≤ a
    · exact q
    · have : (2 : Int) ^ i * (2 * a + bit v i) ≤ 2 ^ i * (-1) := Int.mul_le_mul_of_nonneg_left (by rcases bit_01 v i with hb | hb <;> omega) (Int.le_of_lt hp)
      omega
  have hq : (4294967296 : Int) = 2 ^ i * (2 * 2 ^ (31 - i)) := by
    have e1 : (2 : Int) * 2 ^ (31 - i) = 2 ^ (32 - i) := by
      rw [Int.mul_comm, ← Int.pow_succ]; congr 1; omega
    rw [e1, ← Int.pow_add]
    have : i + (32 - i) = 32 := by omega
    rw [this]; rfl
  have ha2 : a < 2 ^ (31 - i) := by
    by_cases q : a < 2 ^ (31 - i)
    · exact q
    · have : (2 : Int) ^ i * (2 * 2 ^ (31 - i)) ≤ 2 ^ i * (2 * a + bit v i) := Int.mul_le_mul_of_nonneg_left (by rcases bit_01 v i with hb | hb <;> omega) (Int.le_of_lt hp)
      omega
  rw [e]
  constructor
  · have : 0 ≤ (2 : Int) ^ i * (2 * a + (1 - bit v i)) := Int.mul_nonneg (Int.le_of_lt hp) (by rcases bit_01 v i with hb | hb <;> omega)
    omega
  · have : (2 : Int) ^ i * (2 * a + (1 - bit v i)) ≤ 2 ^ i * (2 * 2 ^ (31 - i) - 1) := Int.mul_le_mul_of_nonneg_left (by rcases bit_01 v i with hb | hb <;> omega) (Int.le_of_lt hp)
    rw [Int.mul_sub, ← hq] at this
    omega
theorem stp_ok {s : Int} {sz : Nat} {bs : List Int} {r : Row} (h : BsOk sz bs) (hr : r.ok sz) : BsOk sz (stp s bs r) := by
  have setOk : ∀ {cs : List Int} {x : Nat} {v : Int}, BsOk sz cs → 0 ≤ v → v < 4294967296 → BsOk sz (cs.set x v) := fun {cs x v} h h0 h1 =>
    ⟨by rw [List.length_set]; exact h.len, fun u hu => by
      rcases List.mem_or_eq_of_mem_set hu with q | q
      · exact h.rng u q
      · subst q; exact ⟨h0, h1⟩⟩
  cases r with
  | add x o => exact setOk h (Int.emod_nonneg _ (by decide)) (Int.emod_lt_of_pos _ (by decide))
  | take x o => exact setOk h (Int.emod_nonneg _ (by decide)) (Int.emod_lt_of_pos _ (by decide))
  | turn x i cs =>
    show BsOk sz (if con bs cs = true then bs.set x (flp (gt bs x) i) else bs)
    split
    · obtain ⟨hx, hi, _⟩ := hr
      obtain ⟨a, b⟩ := gt_rng h hx
      obtain ⟨c, d⟩ := flp_rng hi a b
      exact setOk h c d
    · exact h
  | swap x y =>
    obtain ⟨hx, hy, _⟩ := hr
    obtain ⟨a, b⟩ := gt_rng h hx
    obtain ⟨c, d⟩ := gt_rng h hy
    exact setOk (setOk h c d) a b
  | go _ _ _ => exact h
  | come _ _ _ => exact h
theorem set_get {bs : List Int} {x : Nat} (h : x < bs.length) : bs.set x (gt bs x) = bs := by
  rw [gt_get h, List.set_getElem_self]
/-- a row undone -/
theorem stp_back {s : Int} (hs : s = 1 ∨ s = -1) {sz : Nat} {bs : List Int} {r : Row} (h : BsOk sz bs) (hr : r.ok sz) : stp (-s) (stp s bs r) r = bs := by
  have hl := h.len
  cases r with
  | add x o =>
    obtain ⟨hx, ho⟩ := hr
    have hv : val (bs.set x ((gt bs x + s * val bs o) % 4294967296)) o = val bs o := by
      cases o with
      | num n => rfl
      | box y => show gt _ y = gt bs y; rw [gt_set (by omega), if_neg ho.2]
    show (bs.set x _).set x ((gt (bs.set x _) x + -s * val (bs.set x _) o) % 4294967296) = bs
    rw [hv, gt_set (by omega), if_pos rfl, List.set_set]
    have hg := gt_rng h hx
    have e : ((gt bs x + s * val bs o) % 4294967296 + -s * val bs o) % 4294967296 = gt bs x := by
      rw [Int.neg_mul]; omega
    rw [e, set_get (by omega)]
  | take x o =>
    obtain ⟨hx, ho⟩ := hr
    have hv : val (bs.set x ((gt bs x - s * val bs o) % 4294967296)) o = val bs o := by
      cases o with
      | num n => rfl
      | box y => show gt _ y = gt bs y; rw [gt_set (by omega), if_neg ho.2]
    show (bs.set x _).set x ((gt (bs.set x _) x - -s * val (bs.set x _) o) % 4294967296) = bs
    rw [hv, gt_set (by omega), if_pos rfl, List.set_set]
    have hg := gt_rng h hx
    have e : ((gt bs x - s * val bs o) % 4294967296 - -s * val bs o) % 4294967296 = gt bs x := by
      rw [Int.neg_mul]; omega
    rw [e, set_get (by omega)]
  | turn x i cs =>
    obtain ⟨hx, hi, _, hc⟩ := hr
    show (if con (if con bs cs = true then bs.set x (flp (gt bs x) i) else bs) cs = true then _ else _) = bs
    by_cases hb : con bs cs = true
    · have hb2 : con (bs.set x (flp (gt bs x) i)) cs = true := by
        unfold con at hb ⊢
        rw [List.all_eq_true] at hb ⊢
        intro c hcm
        rw [gt_set (by omega), if_neg (hc c hcm).2.1]
        exact hb c hcm
      show (if con (if con bs cs = true then bs.set x (flp (gt bs x) i) else bs) cs = true then (if con bs cs = true then bs.set x (flp (gt bs x) i) else bs).set x (flp (gt (if con bs cs = true then bs.set x (flp (gt bs x) i) else bs) x) i) else (if con bs cs = true then bs.set x (flp (gt bs x) i) else bs)) = bs
      rw [if_pos hb, if_pos hb2, gt_set (by omega), if_pos rfl, List.set_set, flp_flp, set_get (by omega)]
    · show (if con (if con bs cs = true then bs.set x (flp (gt bs x) i) else bs) cs = true then (if con bs cs = true then bs.set x (flp (gt bs x) i) else bs).set x (flp (gt (if con bs cs = true then bs.set x (flp (gt bs x) i) else bs) x) i) else (if con bs cs = true then bs.set x (flp (gt bs x) i) else bs)) = bs
      rw [if_neg hb, if_neg hb]
  | swap x y =>
    obtain ⟨hx, hy, hne⟩ := hr
    show (((bs.set x (gt bs y)).set y (gt bs x)).set x (gt ((bs.set x (gt bs y)).set y (gt bs x)) y)).set y (gt ((bs.set x (gt bs y)).set y (gt bs x)) x) = bs
    rw [gt_set (by rw [List.length_set]; omega), if_pos rfl, gt_set (by rw [List.length_set]; omega), if_neg (Ne.symm hne), gt_set (by omega), if_pos rfl]
    rw [List.set_comm _ _ hne, List.set_set, List.set_comm _ _ (Ne.symm hne)]
    have e1 : (bs.set x (gt bs y)).set x (gt bs x) = bs := by rw [List.set_set, set_get (by omega)]
    rw [List.set_comm _ _ hne] at *
    first
      | (rw [e1]; exact set_get (by omega))
      | (rw [List.set_comm _ _ (Ne.symm hne), e1]; exact set_get (by omega))
  | go _ _ _ => rfl
  | come _ _ _ => rfl
end Rw

namespace Rw
open PySem L2 L3
theorem snaps_ints {G : Gp} : ∀ ks : List Int, (ks.map D.int).mapM (snap G 0) = some (ks.map Sn.int)
  | [] => rfl
  | k :: ks => by
    rw [List.map_cons, List.mapM_cons, snaps_ints ks]
    rfl
theorem snap_ints {G : Gp} {a : Addr} {ks : List Int} (h : seqOf (G a) = some (ks.map .int)) : snap G 1 (.ref a) = some (.lst (ks.map .int)) := by
  show ((seqOf (G a)).bind fun ds => (ds.mapM (snap G 0)).map Sn.lst) = _
  rw [h, Option.bind_some, snaps_ints]
  rfl
theorem eq_zip : ∀ ks ms : List Int, ks.length = ms.length → ∃ bs, (((ks.map Sn.int).zip (ms.map Sn.int)).mapM fun p => eqN 0 p.1 p.2) = some bs ∧ bs.all id = decide (ks = ms)
  | [], [], _ => ⟨[], rfl, rfl⟩
  | [], _ :: _, h => by simp at h
  | _ :: _, [], h => by simp at h
  | k :: ks, m :: ms, h => by
    obtain ⟨bs, e, q⟩ := eq_zip ks ms (by simpa using h)
    refine ⟨(k == m) :: bs, ?_, ?_⟩
    · rw [List.map_cons, List.map_cons, List.zip_cons_cons, List.mapM_cons, e]
      rfl
    · rw [List.all_cons, q]
      by_cases hk : k = m
      · subst hk; simp
      · simp [hk]
theorem eq_ints {ks ms : List Int} : eqN 1 (.lst (ks.map .int)) (.lst (ms.map .int)) = some (decide (ks = ms)) := by
  show (if (ks.map Sn.int).length = (ms.map Sn.int).length then (((ks.map Sn.int).zip (ms.map Sn.int)).mapM fun p => eqN 0 p.1 p.2).map (fun bs => bs.all id) else some false) = _
  by_cases h : ks.length = ms.length
  · rw [if_pos (by simpa using h)]
    obtain ⟨bs, e, q⟩ := eq_zip ks ms h
    rw [e, Option.map_some, q]
  · rw [if_neg (by simpa using h)]
    have : ks ≠ ms := fun e => h (by rw [e])
    simp [this]
/-- two lists of ints compared -/
theorem cmp_ints {G : Gp} {a b : Addr} {ks ms : List Int} {Q : Bool → Prop} (h1 : seqOf (G a) = some (ks.map .int)) (h2 : seqOf (G b) = some (ms.map .int)) (h : Q (decide (ks = ms))) :
    ∃ n sd se r, n ≤ 40 ∧ snap G n (.ref a) = some sd ∧ snap G n (.ref b) = some se ∧ eqN n sd se = some r ∧ Q r :=
  ⟨1, _, _, _, by decide, snap_ints h1, snap_ints h2, eq_ints, h⟩
end Rw
namespace Rw
open PySem L2 L3
theorem rngD_succ (lo : Int) (n : Nat) : rngD lo (n + 1) = .int lo :: rngD (lo + 1) n := by
  unfold rngD
  rw [List.range_succ_eq_map, List.map_cons, List.map_map]
  congr 1
  · simp
  · apply List.map_congr_left
    intro i _
    show D.int _ = D.int _
    congr 1
    simp
    omega
theorem flat_one {α : Type} (x : α) : ∀ n : Nat, (List.replicate n [x]).flatten = List.replicate n x
  | 0 => rfl
  | n + 1 => by rw [List.replicate_succ, List.flatten_cons, flat_one x n, List.replicate_succ]; rfl
end Rw
namespace Rw
open PySem L2 L3
theorem div_bit {v : Int} {j : Nat} : v / (1 * 2 ^ j) % 2 = bit v j := by rw [Int.one_mul]; rfl
theorem pow_lt {j : Nat} (h : j < 32) : (2 : Int) ^ j < 4294967296 := by
  have h1 : (2 : Int) ^ 32 = 2 ^ j * 2 ^ (32 - j) := by rw [← Int.pow_add]; congr 1; omega
  have h2 : (2 : Int) ^ (32 - j) = 2 * 2 ^ (31 - j) := by rw [show 32 - j = (31 - j) + 1 by omega, Int.pow_succ, Int.mul_comm]
  have h3 := pow_pos j
  have h4 := pow_pos (31 - j)
  have h5 : (2 : Int) ^ j * 1 < 2 ^ j * 2 ^ (32 - j) := Int.mul_lt_mul_of_pos_left (by omega) h3
  have h6 : (2 : Int) ^ 32 = 4294967296 := rfl
  omega
theorem cdivl_pow {v : Int} {j : Nat} (h : j < 32) : CDivL v (1 * 2 ^ j) := by
  rw [Int.one_mul]; exact ⟨pow_pos j, by have := pow_lt h; omega⟩
theorem cmul_pow {v : Int} {j : Nat} (h : j < 32) : CMul (1 * 2 ^ j) v := by
  rw [Int.one_mul]; exact cmul_l (Int.le_of_lt (pow_pos j)) (by have := pow_lt h; omega)
theorem flp_is {v : Int} {i : Nat} : v + 1 * 2 ^ i * (1 - 2 * bit v i) = flp v i := by rw [Int.one_mul]; rfl
structure Grow (G G' : Gp) : Prop where
  kp : ∀ b o, G b = some o → G' b = some o
theorem Grow.refl {G : Gp} : Grow G G := ⟨fun _ _ h => h⟩
theorem Grow.trans {G G1 G2 : Gp} (a : Grow G G1) (b : Grow G1 G2) : Grow G G2 := ⟨fun c o h => b.kp c o (a.kp c o h)⟩
theorem Grow.new {G G1 : Gp} {p : Addr} {o : DO} (a : Grow G G1) (h : G1 p = none) : Grow G (gup G1 p o) := ⟨fun b u e => by rw [gup_ne (gne (a.kp b u e) h)]; exact a.kp b u e⟩
theorem Grow.own {G G1 : Gp} {p : Addr} {o : DO} (a : Grow G G1) (h : G p = none) : Grow G (gup G1 p o) := ⟨fun b u e => by rw [gup_ne (gne e h)]; exact a.kp b u e⟩
theorem Grow.none {G G1 : Gp} {p : Addr} (a : Grow G G1) (h : G1 p = none) : G p = none := by
  cases e : G p with
  | none => rfl
  | some o => rw [a.kp p o e] at h; cases h
end Rw

namespace L3
open PySem
theorem sw_all : ((("add" : Str) = "take") = False) ∧ ((("add" : Str) = "turn") = False) ∧ ((("add" : Str) = "swap") = False) ∧ ((("add" : Str) = "go") = False) ∧ ((("add" : Str) = "come") = False) ∧ ((("add" : Str) = "box") = False) ∧ ((("add" : Str) = "num") = False) ∧ ((("take" : Str) = "add") = False) ∧ ((("take" : Str) = "turn") = False) ∧ ((("take" : Str) = "swap") = False) ∧ ((("take" : Str) = "go") = False) ∧ ((("take" : Str) = "come") = False) ∧ ((("take" : Str) = "box") = False) ∧ ((("take" : Str) = "num") = False) ∧ ((("turn" : Str) = "add") = False) ∧ ((("turn" : Str) = "take") = False) ∧ ((("turn" : Str) = "swap") = False) ∧ ((("turn" : Str) = "go") = False) ∧ ((("turn" : Str) = "come") = False) ∧ ((("turn" : Str) = "box") = False) ∧ ((("turn" : Str) = "num") = False) ∧ ((("swap" : Str) = "add") = False) ∧ ((("swap" : Str) = "take") = False) ∧ ((("swap" : Str) = "turn") = False) ∧ ((("swap" : Str) = "go") = False) ∧ ((("swap" : Str) = "come") = False) ∧ ((("swap" : Str) = "box") = False) ∧ ((("swap" : Str) = "num") = False) ∧ ((("go" : Str) = "add") = False) ∧ ((("go" : Str) = "take") = False) ∧ ((("go" : Str) = "turn") = False) ∧ ((("go" : Str) = "swap") = False) ∧ ((("go" : Str) = "come") = False) ∧ ((("go" : Str) = "box") = False) ∧ ((("go" : Str) = "num") = False) ∧ ((("come" : Str) = "add") = False) ∧ ((("come" : Str) = "take") = False) ∧ ((("come" : Str) = "turn") = False) ∧ ((("come" : Str) = "swap") = False) ∧ ((("come" : Str) = "go") = False) ∧ ((("come" : Str) = "box") = False) ∧ ((("come" : Str) = "num") = False) ∧ ((("box" : Str) = "add") = False) ∧ ((("box" : Str) = "take") = False) ∧ ((("box" : Str) = "turn") = False) ∧ ((("box" : Str) = "swap") = False) ∧ ((("box" : Str) = "go") = False) ∧ ((("box" : Str) = "come") = False) ∧ ((("box" : Str) = "num") = False) ∧ ((("num" : Str) = "add") = False) ∧ ((("num" : Str) = "take") = False) ∧ ((("num" : Str) = "turn") = False) ∧ ((("num" : Str) = "swap") = False) ∧ ((("num" : Str) = "go") = False) ∧ ((("num" : Str) = "come") = False) ∧ ((("num" : Str) = "box") = False) := ⟨sn_add_take, sn_add_turn, sn_add_swap, sn_add_go, sn_add_come, sn_add_box, sn_add_num, sn_take_add, sn_take_turn, sn_take_swap, sn_take_go, sn_take_come, sn_take_box, sn_take_num, sn_turn_add, sn_turn_take, sn_turn_swap, sn_turn_go, sn_turn_come, sn_turn_box, sn_turn_num, sn_swap_add, sn_swap_take, sn_swap_turn, sn_swap_go, sn_swap_come, sn_swap_box, sn_swap_num, sn_go_add, sn_go_take, sn_go_turn, sn_go_swap, sn_go_come, sn_go_box, sn_go_num, sn_come_add, sn_come_take, sn_come_turn, sn_come_swap, sn_come_go, sn_come_box, sn_come_num, sn_box_add, sn_box_take, sn_box_turn, sn_box_swap, sn_box_go, sn_box_come, sn_box_num, sn_num_add, sn_num_take, sn_num_turn, sn_num_swap, sn_num_go, sn_num_come, sn_num_box⟩
theorem sf_all : ((("rows" : Str) = "held") = False) ∧ ((("rows" : Str) = "spot") = False) ∧ ((("rows" : Str) = "place") = False) ∧ ((("rows" : Str) = "boxes") = False) ∧ ((("rows" : Str) = "forth") = False) ∧ ((("rows" : Str) = "back") = False) ∧ ((("rows" : Str) = "at_end") = False) ∧ ((("rows" : Str) = "at_begin") = False) ∧ ((("rows" : Str) = "may_forth") = False) ∧ ((("rows" : Str) = "may_back") = False) ∧ ((("held" : Str) = "rows") = False) ∧ ((("held" : Str) = "spot") = False) ∧ ((("held" : Str) = "place") = False) ∧ ((("held" : Str) = "boxes") = False) ∧ ((("held" : Str) = "forth") = False) ∧ ((("held" : Str) = "back") = False) ∧ ((("held" : Str) = "at_end") = False) ∧ ((("held" : Str) = "at_begin") = False) ∧ ((("held" : Str) = "may_forth") = False) ∧ ((("held" : Str) = "may_back") = False) ∧ ((("spot" : Str) = "rows") = False) ∧ ((("spot" : Str) = "held") = False) ∧ ((("spot" : Str) = "place") = False) ∧ ((("spot" : Str) = "boxes") = False) ∧ ((("spot" : Str) = "forth") = False) ∧ ((("spot" : Str) = "back") = False) ∧ ((("spot" : Str) = "at_end") = False) ∧ ((("spot" : Str) = "at_begin") = False) ∧ ((("spot" : Str) = "may_forth") = False) ∧ ((("spot" : Str) = "may_back") = False) ∧ ((("place" : Str) = "rows") = False) ∧ ((("place" : Str) = "held") = False) ∧ ((("place" : Str) = "spot") = False) ∧ ((("place" : Str) = "boxes") = False) ∧ ((("place" : Str) = "forth") = False) ∧ ((("place" : Str) = "back") = False) ∧ ((("place" : Str) = "at_end") = False) ∧ ((("place" : Str) = "at_begin") = False) ∧ ((("place" : Str) = "may_forth") = False) ∧ ((("place" : Str) = "may_back") = False) ∧ ((("boxes" : Str) = "rows") = False) ∧ ((("boxes" : Str) = "held") = False) ∧ ((("boxes" : Str) = "spot") = False) ∧ ((("boxes" : Str) = "place") = False) ∧ ((("boxes" : Str) = "forth") = False) ∧ ((("boxes" : Str) = "back") = False) ∧ ((("boxes" : Str) = "at_end") = False) ∧ ((("boxes" : Str) = "at_begin") = False) ∧ ((("boxes" : Str) = "may_forth") = False) ∧ ((("boxes" : Str) = "may_back") = False) ∧ ((("forth" : Str) = "rows") = False) ∧ ((("forth" : Str) = "held") = False) ∧ ((("forth" : Str) = "spot") = False) ∧ ((("forth" : Str) = "place") = False) ∧ ((("forth" : Str) = "boxes") = False) ∧ ((("forth" : Str) = "back") = False) ∧ ((("forth" : Str) = "at_end") = False) ∧ ((("forth" : Str) = "at_begin") = False) ∧ ((("forth" : Str) = "may_forth") = False) ∧ ((("forth" : Str) = "may_back") = False) ∧ ((("back" : Str) = "rows") = False) ∧ ((("back" : Str) = "held") = False) ∧ ((("back" : Str) = "spot") = False) ∧ ((("back" : Str) = "place") = False) ∧ ((("back" : Str) = "boxes") = False) ∧ ((("back" : Str) = "forth") = False) ∧ ((("back" : Str) = "at_end") = False) ∧ ((("back" : Str) = "at_begin") = False) ∧ ((("back" : Str) = "may_forth") = False) ∧ ((("back" : Str) = "may_back") = False) ∧ ((("at_end" : Str) = "rows") = False) ∧ ((("at_end" : Str) = "held") = False) ∧ ((("at_end" : Str) = "spot") = False) ∧ ((("at_end" : Str) = "place") = False) ∧ ((("at_end" : Str) = "boxes") = False) ∧ ((("at_end" : Str) = "forth") = False) ∧ ((("at_end" : Str) = "back") = False) ∧ ((("at_end" : Str) = "at_begin") = False) ∧ ((("at_end" : Str) = "may_forth") = False) ∧ ((("at_end" : Str) = "may_back") = False) ∧ ((("at_begin" : Str) = "rows") = False) ∧ ((("at_begin" : Str) = "held") = False) ∧ ((("at_begin" : Str) = "spot") = False) ∧ ((("at_begin" : Str) = "place") = False) ∧ ((("at_begin" : Str) = "boxes") = False) ∧ ((("at_begin" : Str) = "forth") = False) ∧ ((("at_begin" : Str) = "back") = False) ∧ ((("at_begin" : Str) = "at_end") = False) ∧ ((("at_begin" : Str) = "may_forth") = False) ∧ ((("at_begin" : Str) = "may_back") = False) ∧ ((("may_forth" : Str) = "rows") = False) ∧ ((("may_forth" : Str) = "held") = False) ∧ ((("may_forth" : Str) = "spot") = False) ∧ ((("may_forth" : Str) = "place") = False) ∧ ((("may_forth" : Str) = "boxes") = False) ∧ ((("may_forth" : Str) = "forth") = False) ∧ ((("may_forth" : Str) = "back") = False) ∧ ((("may_forth" : Str) = "at_end") = False) ∧ ((("may_forth" : Str) = "at_begin") = False) ∧ ((("may_forth" : Str) = "may_back") = False) ∧ ((("may_back" : Str) = "rows") = False) ∧ ((("may_back" : Str) = "held") = False) ∧ ((("may_back" : Str) = "spot") = False) ∧ ((("may_back" : Str) = "place") = False) ∧ ((("may_back" : Str) = "boxes") = False) ∧ ((("may_back" : Str) = "forth") = False) ∧ ((("may_back" : Str) = "back") = False) ∧ ((("may_back" : Str) = "at_end") = False) ∧ ((("may_back" : Str) = "at_begin") = False) ∧ ((("may_back" : Str) = "may_forth") = False) ∧ ((("rows" : Str) == "held") = false) ∧ ((("rows" : Str) == "spot") = false) ∧ ((("rows" : Str) == "place") = false) ∧ ((("rows" : Str) == "boxes") = false) ∧ ((("rows" : Str) == "forth") = false) ∧ ((("rows" : Str) == "back") = false) ∧ ((("rows" : Str) == "at_end") = false) ∧ ((("rows" : Str) == "at_begin") = false) ∧ ((("rows" : Str) == "may_forth") = false) ∧ ((("rows" : Str) == "may_back") = false) ∧ ((("held" : Str) == "rows") = false) ∧ ((("held" : Str) == "spot") = false) ∧ ((("held" : Str) == "place") = false) ∧ ((("held" : Str) == "boxes") = false) ∧ ((("held" : Str) == "forth") = false) ∧ ((("held" : Str) == "back") = false) ∧ ((("held" : Str) == "at_end") = false) ∧ ((("held" : Str) == "at_begin") = false) ∧ ((("held" : Str) == "may_forth") = false) ∧ ((("held" : Str) == "may_back") = false) ∧ ((("spot" : Str) == "rows") = false) ∧ ((("spot" : Str) == "held") = false) ∧ ((("spot" : Str) == "place") = false) ∧ ((("spot" : Str) == "boxes") = false) ∧ ((("spot" : Str) == "forth") = false) ∧ ((("spot" : Str) == "back") = false) ∧ ((("spot" : Str) == "at_end") = false) ∧ ((("spot" : Str) == "at_begin") = false) ∧ ((("spot" : Str) == "may_forth") = false) ∧ ((("spot" : Str) == "may_back") = false) ∧ ((("place" : Str) == "rows") = false) ∧ ((("place" : Str) == "held") = false) ∧ ((("place" : Str) == "spot") = false) ∧ ((("place" : Str) == "boxes") = false) ∧ ((("place" : Str) == "forth") = false) ∧ ((("place" : Str) == "back") = false) ∧ ((("place" : Str) == "at_end") = false) ∧ ((("place" : Str) == "at_begin") = false) ∧ ((("place" : Str) == "may_forth") = false) ∧ ((("place" : Str) == "may_back") = false) ∧ ((("boxes" : Str) == "rows") = false) ∧ ((("boxes" : Str) == "held") = false) ∧ ((("boxes" : Str) == "spot") = false) ∧ ((("boxes" : Str) == "place") = false) ∧ ((("boxes" : Str) == "forth") = false) ∧ ((("boxes" : Str) == "back") = false) ∧ ((("boxes" : Str) == "at_end") = false) ∧ ((("boxes" : Str) == "at_begin") = false) ∧ ((("boxes" : Str) == "may_forth") = false) ∧ ((("boxes" : Str) == "may_back") = false) ∧ ((("forth" : Str) == "rows") = false) ∧ ((("forth" : Str) == "held") = false) ∧ ((("forth" : Str) == "spot") = false) ∧ ((("forth" : Str) == "place") = false) ∧ ((("forth" : Str) == "boxes") = false) ∧ ((("forth" : Str) == "back") = false) ∧ ((("forth" : Str) == "at_end") = false) ∧ ((("forth" : Str) == "at_begin") = false) ∧ ((("forth" : Str) == "may_forth") = false) ∧ ((("forth" : Str) == "may_back") = false) ∧ ((("back" : Str) == "rows") = false) ∧ ((("back" : Str) == "held") = false) ∧ ((("back" : Str) == "spot") = false) ∧ ((("back" : Str) == "place") = false) ∧ ((("back" : Str) == "boxes") = false) ∧ ((("back" : Str) == "forth") = false) ∧ ((("back" : Str) == "at_end") = false) ∧ ((("back" : Str) == "at_begin") = false) ∧ ((("back" : Str) == "may_forth") = false) ∧ ((("back" : Str) == "may_back") = false) ∧ ((("at_end" : Str) == "rows") = false) ∧ ((("at_end" : Str) == "held") = false) ∧ ((("at_end" : Str) == "spot") = false) ∧ ((("at_end" : Str) == "place") = false) ∧ ((("at_end" : Str) == "boxes") = false) ∧ ((("at_end" : Str) == "forth") = false) ∧ ((("at_end" : Str) == "back") = false) ∧ ((("at_end" : Str) == "at_begin") = false) ∧ ((("at_end" : Str) == "may_forth") = false) ∧ ((("at_end" : Str) == "may_back") = false) ∧ ((("at_begin" : Str) == "rows") = false) ∧ ((("at_begin" : Str) == "held") = false) ∧ ((("at_begin" : Str) == "spot") = false) ∧ ((("at_begin" : Str) == "place") = false) ∧ ((("at_begin" : Str) == "boxes") = false) ∧ ((("at_begin" : Str) == "forth") = false) ∧ ((("at_begin" : Str) == "back") = false) ∧ ((("at_begin" : Str) == "at_end") = false) ∧ ((("at_begin" : Str) == "may_forth") = false) ∧ ((("at_begin" : Str) == "may_back") = false) ∧ ((("may_forth" : Str) == "rows") = false) ∧ ((("may_forth" : Str) == "held") = false) ∧ ((("may_forth" : Str) == "spot") = false) ∧ ((("may_forth" : Str) == "place") = false) ∧ ((("may_forth" : Str) == "boxes") = false) ∧ ((("may_forth" : Str) == "forth") = false) ∧ ((("may_forth" : Str) == "back") = false) ∧ ((("may_forth" : Str) == "at_end") = false) ∧ ((("may_forth" : Str) == "at_begin") = false) ∧ ((("may_forth" : Str) == "may_back") = false) ∧ ((("may_back" : Str) == "rows") = false) ∧ ((("may_back" : Str) == "held") = false) ∧ ((("may_back" : Str) == "spot") = false) ∧ ((("may_back" : Str) == "place") = false) ∧ ((("may_back" : Str) == "boxes") = false) ∧ ((("may_back" : Str) == "forth") = false) ∧ ((("may_back" : Str) == "back") = false) ∧ ((("may_back" : Str) == "at_end") = false) ∧ ((("may_back" : Str) == "at_begin") = false) ∧ ((("may_back" : Str) == "may_forth") = false) := ⟨sn_rows_held, sn_rows_spot, sn_rows_place, sn_rows_boxes, sn_rows_forth, sn_rows_back, sn_rows_at_end, sn_rows_at_begin, sn_rows_may_forth, sn_rows_may_back, sn_held_rows, sn_held_spot, sn_held_place, sn_held_boxes, sn_held_forth, sn_held_back, sn_held_at_end, sn_held_at_begin, sn_held_may_forth, sn_held_may_back, sn_spot_rows, sn_spot_held, sn_spot_place, sn_spot_boxes, sn_spot_forth, sn_spot_back, sn_spot_at_end, sn_spot_at_begin, sn_spot_may_forth, sn_spot_may_back, sn_place_rows, sn_place_held, sn_place_spot, sn_place_boxes, sn_place_forth, sn_place_back, sn_place_at_end, sn_place_at_begin, sn_place_may_forth, sn_place_may_back, sn_boxes_rows, sn_boxes_held, sn_boxes_spot, sn_boxes_place, sn_boxes_forth, sn_boxes_back, sn_boxes_at_end, sn_boxes_at_begin, sn_boxes_may_forth, sn_boxes_may_back, sn_forth_rows, sn_forth_held, sn_forth_spot, sn_forth_place, sn_forth_boxes, sn_forth_back, sn_forth_at_end, sn_forth_at_begin, sn_forth_may_forth, sn_forth_may_back, sn_back_rows, sn_back_held, sn_back_spot, sn_back_place, sn_back_boxes, sn_back_forth, sn_back_at_end, sn_back_at_begin, sn_back_may_forth, sn_back_may_back, sn_at_end_rows, sn_at_end_held, sn_at_end_spot, sn_at_end_place, sn_at_end_boxes, sn_at_end_forth, sn_at_end_back, sn_at_end_at_begin, sn_at_end_may_forth, sn_at_end_may_back, sn_at_begin_rows, sn_at_begin_held, sn_at_begin_spot, sn_at_begin_place, sn_at_begin_boxes, sn_at_begin_forth, sn_at_begin_back, sn_at_begin_at_end, sn_at_begin_may_forth, sn_at_begin_may_back, sn_may_forth_rows, sn_may_forth_held, sn_may_forth_spot, sn_may_forth_place, sn_may_forth_boxes, sn_may_forth_forth, sn_may_forth_back, sn_may_forth_at_end, sn_may_forth_at_begin, sn_may_forth_may_back, sn_may_back_rows, sn_may_back_held, sn_may_back_spot, sn_may_back_place, sn_may_back_boxes, sn_may_back_forth, sn_may_back_back, sn_may_back_at_end, sn_may_back_at_begin, sn_may_back_may_forth, sb_rows_held, sb_rows_spot, sb_rows_place, sb_rows_boxes, sb_rows_forth, sb_rows_back, sb_rows_at_end, sb_rows_at_begin, sb_rows_may_forth, sb_rows_may_back, sb_held_rows, sb_held_spot, sb_held_place, sb_held_boxes, sb_held_forth, sb_held_back, sb_held_at_end, sb_held_at_begin, sb_held_may_forth, sb_held_may_back, sb_spot_rows, sb_spot_held, sb_spot_place, sb_spot_boxes, sb_spot_forth, sb_spot_back, sb_spot_at_end, sb_spot_at_begin, sb_spot_may_forth, sb_spot_may_back, sb_place_rows, sb_place_held, sb_place_spot, sb_place_boxes, sb_place_forth, sb_place_back, sb_place_at_end, sb_place_at_begin, sb_place_may_forth, sb_place_may_back, sb_boxes_rows, sb_boxes_held, sb_boxes_spot, sb_boxes_place, sb_boxes_forth, sb_boxes_back, sb_boxes_at_end, sb_boxes_at_begin, sb_boxes_may_forth, sb_boxes_may_back, sb_forth_rows, sb_forth_held, sb_forth_spot, sb_forth_place, sb_forth_boxes, sb_forth_back, sb_forth_at_end, sb_forth_at_begin, sb_forth_may_forth, sb_forth_may_back, sb_back_rows, sb_back_held, sb_back_spot, sb_back_place, sb_back_boxes, sb_back_forth, sb_back_at_end, sb_back_at_begin, sb_back_may_forth, sb_back_may_back, sb_at_end_rows, sb_at_end_held, sb_at_end_spot, sb_at_end_place, sb_at_end_boxes, sb_at_end_forth, sb_at_end_back, sb_at_end_at_begin, sb_at_end_may_forth, sb_at_end_may_back, sb_at_begin_rows, sb_at_begin_held, sb_at_begin_spot, sb_at_begin_place, sb_at_begin_boxes, sb_at_begin_forth, sb_at_begin_back, sb_at_begin_at_end, sb_at_begin_may_forth, sb_at_begin_may_back, sb_may_forth_rows, sb_may_forth_held, sb_may_forth_spot, sb_may_forth_place, sb_may_forth_boxes, sb_may_forth_forth, sb_may_forth_back, sb_may_forth_at_end, sb_may_forth_at_begin, sb_may_forth_may_back, sb_may_back_rows, sb_may_back_held, sb_may_back_spot, sb_may_back_place, sb_may_back_boxes, sb_may_back_forth, sb_may_back_back, sb_may_back_at_end, sb_may_back_at_begin, sb_may_back_may_forth⟩
end L3


namespace L3
open PySem PySem.Spec PyProof.Rows L2
theorem xr_all : (∀ i j G q, xEqB false (.int i) (.int j) G q = q (.bl (decide (i = j))) G) ∧ (∀ i j G q, xEqB true (.int i) (.int j) G q = q (.bl (!decide (i = j))) G) ∧
    (∀ i j G q, xEqB false (.str i) (.str j) G q = q (.bl (decide (i = j))) G) ∧ (∀ i j G q, xEqB true (.str i) (.str j) G q = q (.bl (!decide (i = j))) G) ∧
    (∀ a c G q, xEqB false (.ref a) (.ref c) G q = ∃ n sd se b, n ≤ 40 ∧ snap G n (.ref a) = some sd ∧ snap G n (.ref c) = some se ∧ eqN n sd se = some b ∧ q (.bl b) G) ∧
    (∀ a c G q, xEqB true (.ref a) (.ref c) G q = ∃ n sd se b, n ≤ 40 ∧ snap G n (.ref a) = some sd ∧ snap G n (.ref c) = some se ∧ eqN n sd se = some b ∧ q (.bl (!b)) G) ∧
    (∀ a c G q, xEqB false (.tup a) (.tup c) G q = ∃ n sd se b, n ≤ 40 ∧ snap G n (.tup a) = some sd ∧ snap G n (.tup c) = some se ∧ eqN n sd se = some b ∧ q (.bl b) G) ∧
    (∀ a c G q, xEqB true (.tup a) (.tup c) G q = ∃ n sd se b, n ≤ 40 ∧ snap G n (.tup a) = some sd ∧ snap G n (.tup c) = some se ∧ eqN n sd se = some b ∧ q (.bl (!b)) G) ∧
    (∀ i j G q, xAdd (.int i) (.int j) G q = q (.int (i + j)) G) ∧ (∀ i j G q, xMul (.int i) (.int j) G q = (CMul i j ∧ q (.int (i * j)) G)) ∧
    (∀ a k G q, xMul (.ref a) (.int k) G q = (match G a with | some (.lst xs) => (-(2 ^ 63) ≤ k ∧ k < 2 ^ 63 ∧ xs.length * k.toNat ≤ sizeLine) ∧ ∀ p, G p = none → q (.ref p) (gup G p (.lst (List.replicate k.toNat xs).flatten)) | _ => False)) ∧
    (∀ i j G q, xLt (.int i) (.int j) G q = q (.bl (decide (i < j))) G) ∧
    (∀ ds i G q, xIx (.tup ds) (.int i) G q = (match atI ds i with | some d => q d G | none => False)) ∧
    (∀ a i G q, xIx (.ref a) (.int i) G q = (match seqOf (G a) with | some ds => (match atI ds i with | some d => q d G | none => False) | none => False)) ∧
    (∀ xs G q, xLen [.tup xs] G q = q (.int xs.length) G) ∧ (∀ a G q, xLen [.ref a] G q = (match seqOf (G a) with | some xs => q (.int xs.length) G | none => False)) :=
  ⟨fun _ _ _ _ => rfl, fun _ _ _ _ => rfl, fun _ _ _ _ => rfl, fun _ _ _ _ => rfl, fun _ _ _ _ => rfl, fun _ _ _ _ => rfl, fun _ _ _ _ => rfl, fun _ _ _ _ => rfl, fun _ _ _ _ => rfl, fun _ _ _ _ => rfl, fun _ _ _ _ => rfl, fun _ _ _ _ => rfl, fun _ _ _ _ => rfl, fun _ _ _ _ => rfl, fun _ _ _ => rfl, fun _ _ _ => rfl⟩
theorem xs_all : (∀ f i j G q, xInt f (.int i) (.int j) G q = q (.int (f i j)) G) ∧ (∀ C f i j G q, xIntC C f (.int i) (.int j) G q = (C i j ∧ q (.int (f i j)) G)) ∧ (∀ i j G q, xLe (.int i) (.int j) G q = q (.bl (decide (i ≤ j))) G) ∧
    (∀ i j G q, xGt (.int i) (.int j) G q = q (.bl (decide (j < i))) G) ∧ (∀ i j G q, xGe (.int i) (.int j) G q = q (.bl (decide (j ≤ i))) G) ∧ (∀ i G q, xNeg (.int i) G q = q (.int (-i)) G) ∧
    (∀ a k v G q, xSet (.ref a) (.int k) v G q = (match G a with | some (.lst ds) => (match ixN ds.length k with | some j => q (gup G a (.lst (ds.set j v))) | none => False) | _ => False)) ∧
    (∀ a lo hi G q, xSlice (.ref a) lo hi G q = (match seqOf (G a) with | some ds => ∀ p, G p = none → q (.ref p) (gup G p (.lst (cutD ds lo hi))) | none => False)) ∧
    (∀ ds lo hi G q, xSlice (.tup ds) lo hi G q = (¬ (HT.sIx ds.length 0 lo = 0 ∧ HT.sIx ds.length ds.length hi = ds.length) ∧ q (.tup (cutD ds lo hi)) G)) ∧
    (∀ x G q, xIs2 x .non G q = (match x with | .non => q (.bl true) G | _ => q (.bl false) G)) ∧ (∀ x b G q, xIs2 x (.bl b) G q = (match x with | .bl c => q (.bl (decide (c = b))) G | _ => q (.bl false) G)) ∧
    (∀ x G q, xIsNot2 x .non G q = (match x with | .non => q (.bl false) G | _ => q (.bl true) G)) ∧ (∀ x b G q, xIsNot2 x (.bl b) G q = (match x with | .bl c => q (.bl (!decide (c = b))) G | _ => q (.bl true) G)) ∧
    (∀ i G q, xAbs [.int i] G q = q (.int (if i < 0 then -i else i)) G) ∧ (∀ i j G q, xDivmod [.int i, .int j] G q = (CDiv i j ∧ q (.tup [.int (i / j), .int (i % j)]) G)) ∧
    (∀ i j G q, xMax2 [.int i, .int j] G q = q (.int (if j > i then j else i)) G) ∧ (∀ i j G q, xMin2 [.int i, .int j] G q = q (.int (if j < i then j else i)) G) ∧
    (∀ i G q, xToInt [.int i] G q = q (.int i) G) ∧ (∀ b G q, xToInt [.bl b] G q = q (.int (if b then 1 else 0)) G) ∧
    (∀ xs G q, xToList [.tup xs] G q = ∀ p, G p = none → q (.ref p) (gup G p (.lst xs))) ∧ (∀ a G q, xToList [.ref a] G q = (match seqOf (G a) with | some xs => ∀ p, G p = none → q (.ref p) (gup G p (.lst xs)) | none => False)) ∧
    (∀ xs G q, xToTuple [.tup xs] G q = q (.tup xs) G) ∧ (∀ a G q, xToTuple [.ref a] G q = (match seqOf (G a) with | some xs => q (.tup xs) G | none => False)) ∧
    (∀ a G q, xAll [.ref a] G q = (match seqOf (G a) with | some xs => (match allBl xs with | some bs => q (.bl (bs.all id)) G | none => False) | none => False)) ∧
    (∀ x T G q, xIsinst [x, .ty T] G q = ((T = "int" ∨ T = "str" ∨ T = "bool" ∨ T = "list" ∨ T = "tuple" ∨ T = "dict") ∧ (match kindD G x with | some n => q (.bl (subK n T)) G | none => False))) ∧
    (∀ a d G q, mAppend (.ref a) [d] G q = (match G a with | some (.lst xs) => xs.length < sizeLine ∧ q .non (gup G a (.lst (xs ++ [d]))) | _ => False)) ∧
    (∀ a b G q, mExtend (.ref a) [.ref b] G q = (match G a, G b with | some (.lst xs), some (.lst ys) => xs.length + ys.length ≤ sizeLine ∧ q .non (gup G a (.lst (xs ++ ys))) | _, _ => False)) ∧
    (∀ a G q, mClear0 (.ref a) [] G q = (match G a with | some (.lst _) => q .non (gup G a (.lst [])) | _ => False)) := by
  refine ⟨?_, ?_, ?_, ?_, ?_, ?_, ?_, ?_, ?_, ?_, ?_, ?_, ?_, ?_, ?_, ?_, ?_, ?_, ?_, ?_, ?_, ?_, ?_, ?_, ?_, ?_, ?_, ?_⟩ <;> intros <;> rfl
end L3

namespace L2
open PySem PySem.Spec PyProof.Rows
section
variable {X : Cx} {e : Expr} {st : Expr} {te : TE} {ts : TO} {pos p2 : Pos}
end
end L2
namespace L3
open PySem PySem.Spec PyProof.Rows L2
section
variable {X : Cx} {e : Expr} {te : TE3} {pos p2 p3 p4 : Pos} {K : PySem.W.Frag} {σ : L2.St} {H : Hp} {Q : VK}
/-- xs[::-1] -/
noncomputable def dBack (te : TE3) : TE3 := fun σ G q => te σ G fun x G1 => match x with
  | .ref a => (match seqOf (G1 a) with | some ds => ∀ p, G1 p = none → q (.ref p) (gup G1 p (.lst ds.reverse)) | none => False)
  | _ => False
end
end L3

namespace L3
open PySem PySem.Spec PyProof.Rows L2
noncomputable def strsOf : List D → Option (List Str)
  | [] => some []
  | .str x :: r => (strsOf r).map (x :: ·)
  | _ => none
noncomputable def intsOf : List D → Option (List Int)
  | [] => some []
  | .int x :: r => (intsOf r).map (x :: ·)
  | _ => none
section
variable {X : Cx} {K : PySem.W.Frag} {H : Hp}
/-- in, not in: a text among texts, an int among ints -/
noncomputable def xInB (neg : Bool) : R3 := fun x y G q => match x, y with
  | .str w, .tup ds => (match strsOf ds with | some ws => q (.bl (if neg then !decide (w ∈ ws) else decide (w ∈ ws))) G | none => False)
  | .str w, .ref a => (match seqOf (G a) with | some ds => (match strsOf ds with | some ws => q (.bl (if neg then !decide (w ∈ ws) else decide (w ∈ ws))) G | none => False) | none => False)
  | .int w, .tup ds => (match intsOf ds with | some ws => q (.bl (if neg then !decide (w ∈ ws) else decide (w ∈ ws))) G | none => False)
  | .int w, .ref a => (match seqOf (G a) with | some ds => (match intsOf ds with | some ws => q (.bl (if neg then !decide (w ∈ ws) else decide (w ∈ ws))) G | none => False) | none => False)
  | _, _ => False
end
end L3

namespace L2
open PySem PySem.Spec PyProof.Rows
end L2
namespace L3
open PySem PySem.Spec PyProof.Rows L2
end L3

namespace L2
open PySem PySem.Spec PyProof.Rows
end L2
namespace L3
open PySem PySem.Spec PyProof.Rows L2
end L3

namespace L2
open PySem PySem.Spec PyProof.Rows
section
variable {X : Cx}
/-- isinstance of a tuple -/
theorem call_isinstT : CallR X (.builtin "isinstance") (fun xs H Q => ∃ a ys T, xs = [.ref a, .ty T] ∧ SqT X.K H a ys ∧ (T = "int" ∨ T = "str" ∨ T = "bool" ∨ T = "list" ∨ T = "tuple" ∨ T = "dict") ∧ Q (.bl (subK "tuple" T)) H) := by
  intro pins s σ H xs us Q I r h
  obtain ⟨a, ys, T, rfl, hq, hT, q⟩ := h
  obtain ⟨u, w, rfl, rx, rt⟩ := vals2 r
  cases rt
  cases rx
  obtain ⟨its, rv, p, hz⟩ := I.tuple hq
  obtain ⟨o, h1, h2, _⟩ := p
  exact PySem.W.kia_one PySem.W.kitx_tuple I.kIn ⟨o, h1, h2⟩ (kit_sub (by simp) hT) (fun z => nomatch z) fun tk => ⟨.bl (subK "tuple" T), H, I.tok tk, rfl, q⟩
end
end L2
namespace L3
open PySem PySem.Spec PyProof.Rows L2
section
variable {X : Cx}
noncomputable def xIsinstT : C3 := fun ds G q => match ds with
  | [.tup _, .ty T] => (T = "int" ∨ T = "str" ∨ T = "bool" ∨ T = "list" ∨ T = "tuple" ∨ T = "dict") ∧ q (.bl (subK "tuple" T)) G
  | _ => False
theorem x_isinstT : Call3 X (.builtin "isinstance") xIsinstT := weakCall call_isinstT fun xs H Q ⟨ds, G, q, r, c, t, f⟩ => by
  unfold xIsinstT at t
  split at t
  · rename_i d T
    obtain ⟨v, u, rfl, r1, r2⟩ := r.two
    rw [RelD] at r2
    subst r2
    obtain ⟨a, ys, rfl, s1, q1⟩ := r1.tup_inv
    exact ⟨a, ys, T, rfl, s1, t.1, f _ _ _ _ RelD.blI c (Le.refl H) t.2⟩
  · exact t.elim
end
end L3

namespace Law
open PySem L2 L3 Rw
set_option maxHeartbeats 4000000
theorem st_step {i k m : Nat} (h : i + (k + 1) = m) : i + 1 + k = m := by omega
theorem to_nat {v : Int} (h : 0 ≤ v) : ∃ x : Nat, v = (x : Int) := ⟨v.toNat, by omega⟩
theorem rng_ok {m : Nat} (h : m ≤ 100000) : -(2 ^ 62) ≤ (m : Int) ∧ (m : Int) < 2 ^ 62 := ⟨by omega, by omega⟩
theorem lt_ne {j i : Nat} (h : j < i + 1) (e : ¬ i = j) : j < i := by omega
theorem lt_ne' {j i : Nat} (h : j < i + 1) (e : ¬ j = i) : j < i := by omega
theorem i_lt {i k m : Nat} (h : i + (k + 1) = m) : i < m := by omega
theorem nlt {x sz : Nat} (h : (x : Int) < (sz : Int)) : x < sz := by omega
theorem tn_lt {v : Int} {n : Nat} (h0 : 0 ≤ v) (h : v < (n : Int)) : v.toNat < n := by omega
theorem cases4 {t : Int} (h0 : 0 ≤ t) (h : t < 4) : t = 0 ∨ t = 1 ∨ t = 2 ∨ t = 3 := by omega
theorem ipos {n : Nat} (h : 0 < n) : (0 : Int) < (n : Int) := by omega
theorem ismall {n : Nat} (h : n ≤ 1000) : (n : Int) < 1073741824 := by omega
theorem nint {i j : Nat} (h : ¬ i = j) : ¬ (i : Int) = (j : Int) := by omega
theorem le_step {a k m : Nat} (h : a + (k + 1) ≤ m) : a + k ≤ m := by omega
theorem le_step1 {a k m : Nat} (h : a + (k + 1) ≤ m) : a + 1 + k ≤ m := by omega
theorem le_lt {a k m : Nat} (h : a + (k + 1) ≤ m) : a ≤ m := by omega
/-- the draws' state stands at st -/
structure StAt (G : Gp) (st : Addr) : Prop where
  ex : ∃ (a : Addr) (ns : List Int) (k r : Int), G st = some (.lst [.ref a, .int k, .int r]) ∧ G a = some (.fro (ns.map .int)) ∧ 0 ≤ k ∧ 0 ≤ r ∧ a ≠ st ∧ ns.length ≤ 63
structure Adv (st : Addr) (G G' : Gp) : Prop where
  at_ : StAt G' st
  kp : ∀ b o, b ≠ st → G b = some o → G' b = some o
/-- only the list at a is changed, to bs -/
structure Upd1 (a : Addr) (bs : List Int) (G G' : Gp) : Prop where
  at_ : G' a = some (.lst (bs.map .int))
  kp : ∀ b, b ≠ a → G' b = G b
noncomputable def flds (ra ha : Addr) (s : Nat) : List (Str × D) := [("rows", .ref ra), ("held", .ref ha), ("spot", .int (s : Int))]
/-- a ride stands at p -/
structure RideAt (C : Addr) (G : Gp) (p ra ha : Addr) (rs : List Row) (bs : List Int) (s : Nat) : Prop where
  ob : G p = some (.ins C (flds ra ha s))
  ro : G ra = some (.lst (rs.map Row.d))
  he : G ha = some (.lst (bs.map .int))
  ne : ra ≠ ha
structure Cde (sz : Nat) (rs : List Row) (bs : List Int) (s : Nat) : Prop where
  bo : BsOk sz bs
  ro : ∀ r ∈ rs, r.ok sz
  le : s ≤ rs.length
noncomputable def mayF (rs : List Row) (bs : List Int) (s : Nat) : Bool := match rs[s]? with
  | none => false
  | some (.come x n _) => !decide (gt bs x = n)
  | some _ => true
noncomputable def mayB (rs : List Row) (bs : List Int) (s : Nat) : Bool := if s = 0 then false else match rs[s - 1]? with
  | none => false
  | some (.go x n _) => !decide (gt bs x = n)
  | some _ => true
noncomputable def nxF (rs : List Row) (bs : List Int) (s : Nat) : Nat × List Int := match rs[s]? with
  | some (.go x n k) => if gt bs x = n then (k + 1, bs) else (s + 1, bs)
  | some r => (s + 1, stp 1 bs r)
  | none => (s, bs)
noncomputable def nxB (rs : List Row) (bs : List Int) (s : Nat) : Nat × List Int := match rs[s - 1]? with
  | some (.come x n k) => if gt bs x = n then (k, bs) else (s - 1, bs)
  | some r => (s - 1, stp (-1) bs r)
  | none => (s, bs)
theorem RideAt.pr {C : Addr} {G : Gp} {p ra ha : Addr} {rs : List Row} {bs : List Int} {s : Nat} (h : RideAt C G p ra ha rs bs s) : p ≠ ra := by
  intro e; have := h.ob; rw [e, h.ro] at this; cases this
theorem RideAt.ph {C : Addr} {G : Gp} {p ra ha : Addr} {rs : List Row} {bs : List Int} {s : Nat} (h : RideAt C G p ra ha rs bs s) : p ≠ ha := by
  intro e; have := h.ob; rw [e, h.he] at this; cases this
theorem ite_and {c1 c2 A B : Prop} [Decidable c1] [Decidable c2] (h1 : c1 → c2 → A) (h2 : ¬ (c1 ∧ c2) → B) : if decide c1 = true then (if decide c2 = true then A else B) else B := by
  by_cases a : c1
  · by_cases b : c2
    · simpa [a, b] using h1 a b
    · simpa [a, b] using h2 fun z => b z.2
  · simpa [a] using h2 fun z => a z.1
theorem StAt.new {G : Gp} {st p : Addr} {o : DO} (h : StAt G st) (hp : G p = none) : StAt (gup G p o) st := by
  obtain ⟨a, ns, k, r, h1, h2, h3⟩ := h.ex
  exact ⟨a, ns, k, r, by rw [gup_ne (gne h1 hp)]; exact h1, by rw [gup_ne (gne h2 hp)]; exact h2, h3⟩
theorem StAt.ne {G : Gp} {st p : Addr} (h : StAt G st) (hp : G p = none) : p ≠ st := by
  obtain ⟨a, ns, k, r, h1, h2, h3⟩ := h.ex
  exact Ne.symm (gne h1 hp)
theorem StAt.set {G : Gp} {st p : Addr} {xs ys : List D} (h : StAt G st) (hp : G p = some (.lst xs)) (hne : p ≠ st) : StAt (gup G p (.lst ys)) st := by
  obtain ⟨a, ns, k, r, h1, h2, h3⟩ := h.ex
  have : a ≠ p := by intro e; rw [e, hp] at h2; cases h2
  exact ⟨a, ns, k, r, by rw [gup_ne (Ne.symm hne)]; exact h1, by rw [gup_ne this]; exact h2, h3⟩
theorem Adv.refl {G : Gp} {st : Addr} (h : StAt G st) : Adv st G G := ⟨h, fun _ _ _ e => e⟩
theorem Adv.trans {st : Addr} {G G1 G2 : Gp} (a : Adv st G G1) (b : Adv st G1 G2) : Adv st G G2 := ⟨b.at_, fun c o hc e => b.kp c o hc (a.kp c o hc e)⟩
theorem Adv.new {st p : Addr} {G G1 : Gp} {o : DO} (a : Adv st G G1) (hp : G1 p = none) : Adv st G (gup G1 p o) := ⟨a.at_.new hp, fun c u hc e => by rw [gup_ne (gne (a.kp c u hc e) hp)]; exact a.kp c u hc e⟩
/-- a list that was not there ahead is changed -/
theorem Adv.own {st p : Addr} {G G1 : Gp} {xs ys : List D} (a : Adv st G G1) (hp : G p = none) (h1 : G1 p = some (.lst xs)) (hne : p ≠ st) : Adv st G (gup G1 p (.lst ys)) :=
  ⟨a.at_.set h1 hne, fun c u hc e => by rw [gup_ne (gne e hp)]; exact a.kp c u hc e⟩
theorem Adv.none {st p : Addr} {G G1 : Gp} (a : Adv st G G1) (hp : G1 p = none) (hne : p ≠ st) : G p = none := by
  cases e : G p with
  | none => rfl
  | some o => rw [a.kp p o hne e] at hp; cases hp
noncomputable def runF (rs : List Row) (bs : List Int) : List Int := rs.foldl (stp 1) bs
noncomputable def runB (rs : List Row) (bs : List Int) : List Int := rs.reverse.foldl (stp (-1)) bs
theorem run_ok {s : Int} {sz : Nat} : ∀ {rs : List Row} {bs : List Int}, BsOk sz bs → (∀ r ∈ rs, r.ok sz) → BsOk sz (rs.foldl (stp s) bs)
  | [], _, h, _ => h
  | r :: rs, bs, h, hr => run_ok (rs := rs) (stp_ok h (hr r List.mem_cons_self)) fun q hq => hr q (List.mem_cons_of_mem _ hq)
theorem run_back {sz : Nat} : ∀ {rs : List Row} {bs : List Int}, BsOk sz bs → (∀ r ∈ rs, r.ok sz) → runF rs (runB rs bs) = bs
  | [], _, _, _ => rfl
  | r :: rs, bs, h, hr => by
    unfold runF runB
    rw [List.reverse_cons, List.foldl_append, List.foldl_cons, List.foldl_cons, List.foldl_nil]
    have hr' : ∀ q ∈ rs, q.ok sz := fun q hq => hr q (List.mem_cons_of_mem _ hq)
    have hk : BsOk sz (rs.reverse.foldl (stp (-1)) bs) := run_ok h fun q hq => hr' q (List.mem_reverse.mp hq)
    have := stp_back (s := -1) (.inr rfl) hk (hr r List.mem_cons_self)
    rw [show (-(-1) : Int) = 1 from rfl] at this
    rw [this]
    exact run_back h hr'
theorem plainF {rs : List Row} {bs : List Int} {s : Nat} (h : s < rs.length) (hp : rs[s].plain = true) : mayF rs bs s = true ∧ nxF rs bs s = (s + 1, stp 1 bs rs[s]) := by
  have hg := List.getElem?_eq_getElem h
  revert hp
  unfold mayF nxF
  rw [hg]
  cases rs[s] <;> intro hp <;> first | exact ⟨rfl, rfl⟩ | cases hp
theorem plainB {rs : List Row} {bs : List Int} {s : Nat} (h : s < rs.length) (hp : rs[s].plain = true) : mayB rs bs (s + 1) = true ∧ nxB rs bs (s + 1) = (s, stp (-1) bs rs[s]) := by
  have hg := List.getElem?_eq_getElem h
  revert hp
  unfold mayB nxB
  rw [if_neg (by omega), Nat.add_sub_cancel, hg]
  cases rs[s] <;> intro hp <;> first | exact ⟨rfl, rfl⟩ | cases hp
theorem RideAt.grow {C : Addr} {G G' : Gp} {p ra ha : Addr} {rs : List Row} {bs : List Int} {s : Nat} (h : RideAt C G p ra ha rs bs s) (g : Grow G G') : RideAt C G' p ra ha rs bs s :=
  ⟨g.kp _ _ h.ob, g.kp _ _ h.ro, g.kp _ _ h.he, h.ne⟩
/-- what stands stays, but the ride and its boxes -/
structure Kept (p ha : Addr) (G G' : Gp) : Prop where
  kp : ∀ b o, b ≠ p → b ≠ ha → G b = some o → G' b = some o
theorem Kept.refl {p ha : Addr} {G : Gp} : Kept p ha G G := ⟨fun _ _ _ _ h => h⟩
theorem Kept.trans {p ha : Addr} {G G1 G2 : Gp} (a : Kept p ha G G1) (b : Kept p ha G1 G2) : Kept p ha G G2 := ⟨fun c o h1 h2 h => b.kp c o h1 h2 (a.kp c o h1 h2 h)⟩
theorem Kept.grow {p ha : Addr} {G G1 G2 : Gp} (a : Kept p ha G G1) (b : Grow G1 G2) : Kept p ha G G2 := ⟨fun c o h1 h2 h => b.kp c o (a.kp c o h1 h2 h)⟩
theorem Kept.eqs {p ha : Addr} {G G1 G2 : Gp} (a : Kept p ha G G1) (b : ∀ c, c ≠ p → c ≠ ha → G2 c = G1 c) : Kept p ha G G2 := ⟨fun c o h1 h2 h => by rw [b c h1 h2]; exact a.kp c o h1 h2 h⟩
theorem Kept.none {p ha q : Addr} {G G1 : Gp} (a : Kept p ha G G1) (h1 : q ≠ p) (h2 : q ≠ ha) (h : G1 q = none) : G q = none := by
  cases e : G q with
  | none => rfl
  | some o => rw [a.kp q o h1 h2 e] at h; cases h
structure AllIn (C : Addr) (G : Gp) (p ra ha rr a : Addr) (rs : List Row) (bs : List Int) (s sz : Nat) : Prop where
  A : RideAt C G p ra ha rs bs s
  c : Cde sz rs bs s
  pl : ∀ r ∈ rs, r.plain = true
  le : sz ≤ 1000
  r : G rr = some (.lst (rs.map Row.d))
  b : G a = some (.lst (bs.map .int))
  rh : rr ≠ ha
  ah : a ≠ ha
structure AllOut (C : Addr) (G G' : Gp) (p ra ha a q : Addr) (rs : List Row) (bs : List Int) (s : Nat) : Prop where
  A : RideAt C G' p ra ha rs bs s
  b : G' q = some (.lst (bs.map .int))
  k : Kept p ha G G'
  q : q = a ∨ G q = none
end Law
namespace Rw
open PySem L2 L3
theorem mapM_all {α β : Type} {f : α → Option β} : ∀ {xs : List α}, (∀ x ∈ xs, ∃ y, f x = some y) → ∃ ys, xs.mapM f = some ys
  | [], _ => ⟨[], rfl⟩
  | x :: xs, h => by
    obtain ⟨y, hy⟩ := h x List.mem_cons_self
    obtain ⟨ys, hys⟩ := mapM_all (xs := xs) fun z hz => h z (List.mem_cons_of_mem _ hz)
    exact ⟨y :: ys, by rw [List.mapM_cons, hy, hys]; rfl⟩
theorem eq_selfs {n : Nat} : ∀ {ys : List Sn}, (∀ y ∈ ys, eqN n y y = some true) → ∃ bs, ((ys.zip ys).mapM fun p => eqN n p.1 p.2) = some bs ∧ bs.all id = true
  | [], _ => ⟨[], rfl, rfl⟩
  | y :: ys, h => by
    obtain ⟨bs, e, q⟩ := eq_selfs (ys := ys) fun z hz => h z (List.mem_cons_of_mem _ hz)
    refine ⟨true :: bs, ?_, by rw [List.all_cons, q]; rfl⟩
    rw [List.zip_cons_cons, List.mapM_cons, e, h y List.mem_cons_self]
    rfl
theorem mapM_mem {α β : Type} {f : α → Option β} : ∀ {xs : List α} {ys : List β}, xs.mapM f = some ys → ∀ y ∈ ys, ∃ x, f x = some y
  | [], ys, h, y, hy => by
    have : ys = [] := by simpa using h.symm
    subst this; cases hy
  | x :: xs, ys, h, y, hy => by
    rw [List.mapM_cons] at h
    cases hx : f x with
    | none => rw [hx] at h; cases h
    | some z =>
      rw [hx] at h
      cases hr : xs.mapM f with
      | none => rw [hr] at h; cases h
      | some r =>
        rw [hr] at h
        have e : z :: r = ys := Option.some.inj h
        subst e
        rcases List.mem_cons.mp hy with rfl | q
        · exact ⟨x, hx⟩
        · exact mapM_mem hr y q
theorem eq_self {G : Gp} : ∀ (n : Nat) {d : D} {s : Sn}, snap G n d = some s → eqN n s s = some true
  | n, .non, s, h => by cases n <;> (cases h; rfl)
  | n, .bl b, s, h => by cases n <;> (cases h; cases b <;> rfl)
  | n, .int i, s, h => by cases n <;> (cases h; simp [eqN, flatS, eqF])
  | n, .str i, s, h => by cases n <;> (cases h; simp [eqN, flatS, eqF])
  | n, .ty _, s, h => by cases n <;> cases h
  | 0, .tup _, s, h => by cases h
  | 0, .ref _, s, h => by cases h
  | n + 1, .tup ds, s, h => by
    obtain ⟨ys, e, rfl⟩ := Option.map_eq_some_iff.mp (show (ds.mapM (snap G n)).map Sn.tup = some s from h)
    obtain ⟨bs, e2, q⟩ := eq_selfs (n := n) (ys := ys) fun y hy => by obtain ⟨x, hx⟩ := mapM_mem e y hy; exact eq_self n hx
    show (if ys.length = ys.length then ((ys.zip ys).mapM fun p => eqN n p.1 p.2).map (fun bs => bs.all id) else none) = _
    rw [if_pos rfl, e2, Option.map_some, q]
  | n + 1, .ref a, s, h => by
    obtain ⟨ds, e0, h⟩ := Option.bind_eq_some_iff.mp (show ((seqOf (G a)).bind fun ds => (ds.mapM (snap G n)).map Sn.lst) = some s from h)
    obtain ⟨ys, e, rfl⟩ := Option.map_eq_some_iff.mp h
    obtain ⟨bs, e2, q⟩ := eq_selfs (n := n) (ys := ys) fun y hy => by obtain ⟨x, hx⟩ := mapM_mem e y hy; exact eq_self n hx
    show (if ys.length = ys.length then ((ys.zip ys).mapM fun p => eqN n p.1 p.2).map (fun bs => bs.all id) else some false) = _
    rw [if_pos rfl, e2, Option.map_some, q]
theorem snap_tup {G : Gp} {n : Nat} {ds : List D} (h : ∀ d ∈ ds, ∃ s, snap G n d = some s) : ∃ s, snap G (n + 1) (.tup ds) = some s := by
  obtain ⟨ys, e⟩ := mapM_all h
  exact ⟨.tup ys, by show (ds.mapM (snap G n)).map Sn.tup = _; rw [e]; rfl⟩
theorem snap_int {G : Gp} {n : Nat} {i : Int} : ∃ s, snap G n (.int i) = some s := by cases n <;> exact ⟨_, rfl⟩
theorem snap_str {G : Gp} {n : Nat} {i : Str} : ∃ s, snap G n (.str i) = some s := by cases n <;> exact ⟨_, rfl⟩
theorem all1 {p : D → Prop} {a : D} (h : p a) : ∀ d ∈ [a], p d := fun d hd => by cases List.mem_singleton.mp hd; exact h
theorem all2 {p : D → Prop} {a : D} {r : List D} (h : p a) (hr : ∀ d ∈ r, p d) : ∀ d ∈ a :: r, p d := fun d hd => by
  rcases List.mem_cons.mp hd with rfl | q
  · exact h
  · exact hr d q
theorem snap_ref {G : Gp} {n : Nat} {a b : Addr} (h : seqOf (G a) = seqOf (G b)) : snap G n (.ref a) = snap G n (.ref b) := by
  cases n with
  | zero => rfl
  | succ n => show ((seqOf (G a)).bind _) = ((seqOf (G b)).bind _); rw [h]
end Rw

namespace Law
open PySem L2 L3 Rw
set_option maxHeartbeats 4000000
/-- each go has its come, each come its go -/
structure Pairs (rs : List Row) : Prop where
  go : ∀ (j x : Nat) (n : Int) (k : Nat), rs[j]? = some (Row.go x n k) → rs[k]? = some (.come x n j)
  co : ∀ (j x : Nat) (n : Int) (k : Nat), rs[j]? = some (Row.come x n k) → rs[k]? = some (.go x n j)
theorem lt_of {α : Type} {xs : List α} {i : Nat} {x : α} (h : xs[i]? = some x) : i < xs.length := (List.getElem?_eq_some_iff.mp h).1
theorem mayF_lt {rs : List Row} {bs : List Int} {s : Nat} (h : mayF rs bs s = true) : s < rs.length := by
  by_cases q : s < rs.length
  · exact q
  · unfold mayF at h; rw [List.getElem?_eq_none (by omega)] at h; cases h
theorem mayB_pos {rs : List Row} {bs : List Int} {s : Nat} (h : mayB rs bs s = true) : s ≠ 0 := by
  intro e; subst e; cases h
theorem undoF {rs : List Row} {bs : List Int} {s sz : Nat} (hp : Pairs rs) (c : Cde sz rs bs s) (hm : mayF rs bs s = true) :
    Cde sz rs (nxF rs bs s).2 (nxF rs bs s).1 ∧ mayB rs (nxF rs bs s).2 (nxF rs bs s).1 = true ∧ nxB rs (nxF rs bs s).2 (nxF rs bs s).1 = (s, bs) := by
  have hlt := mayF_lt hm
  have hg := List.getElem?_eq_getElem hlt
  have hok := c.ro _ (List.getElem_mem hlt)
  have pln : ∀ row : Row, rs[s] = row → row.plain = true → nxF rs bs s = (s + 1, stp 1 bs row) ∧ (mayB rs (stp 1 bs row) (s + 1) = true ∧ nxB rs (stp 1 bs row) (s + 1) = (s, bs)) := by
    intro row hrow hpl
    have h1 := plainF (bs := bs) hlt (by rw [hrow]; exact hpl)
    have h2 := plainB (bs := stp 1 bs row) hlt (by rw [hrow]; exact hpl)
    rw [hrow] at h1 h2
    rw [hrow] at hok
    refine ⟨h1.2, h2.1, ?_⟩
    rw [h2.2, stp_back (.inl rfl) c.bo hok]
  have fin : ∀ row : Row, rs[s] = row → row.plain = true → Cde sz rs (nxF rs bs s).2 (nxF rs bs s).1 ∧ mayB rs (nxF rs bs s).2 (nxF rs bs s).1 = true ∧ nxB rs (nxF rs bs s).2 (nxF rs bs s).1 = (s, bs) := by
    intro row hrow hpl
    obtain ⟨h1, h2, h3⟩ := pln row hrow hpl
    rw [h1]
    rw [hrow] at hok
    exact ⟨⟨stp_ok c.bo hok, c.ro, hlt⟩, h2, h3⟩
  cases hrow : rs[s] with
  | add x o => exact fin _ hrow rfl
  | take x o => exact fin _ hrow rfl
  | turn x i cs => exact fin _ hrow rfl
  | swap x y => exact fin _ hrow rfl
  | go x n k =>
    have hk := hp.go s x n k (by rw [hg, hrow])
    have hkl := lt_of hk
    by_cases h : gt bs x = n
    · have e : nxF rs bs s = (k + 1, bs) := by unfold nxF; rw [hg, hrow]; simp [h]
      rw [e]
      refine ⟨⟨c.bo, c.ro, hkl⟩, ?_, ?_⟩
      · show mayB rs bs (k + 1) = true
        unfold mayB; rw [if_neg (by omega), Nat.add_sub_cancel, hk]
      · show nxB rs bs (k + 1) = (s, bs)
        unfold nxB; rw [Nat.add_sub_cancel, hk]; simp [h]
    · have e : nxF rs bs s = (s + 1, bs) := by unfold nxF; rw [hg, hrow]; simp [h]
      rw [e]
      refine ⟨⟨c.bo, c.ro, hlt⟩, ?_, ?_⟩
      · show mayB rs bs (s + 1) = true
        unfold mayB; rw [if_neg (by omega), Nat.add_sub_cancel, hg, hrow]; simp [h]
      · show nxB rs bs (s + 1) = (s, bs)
        unfold nxB; rw [Nat.add_sub_cancel, hg, hrow]; rfl
  | come x n k =>
    have h : ¬ gt bs x = n := by unfold mayF at hm; rw [hg, hrow] at hm; simpa using hm
    have e : nxF rs bs s = (s + 1, bs) := by unfold nxF; rw [hg, hrow]; rfl
    rw [e]
    refine ⟨⟨c.bo, c.ro, hlt⟩, ?_, ?_⟩
    · show mayB rs bs (s + 1) = true
      unfold mayB; rw [if_neg (by omega), Nat.add_sub_cancel, hg, hrow]
    · show nxB rs bs (s + 1) = (s, bs)
      unfold nxB; rw [Nat.add_sub_cancel, hg, hrow]; simp [h]
theorem undoB {rs : List Row} {bs : List Int} {s sz : Nat} (hp : Pairs rs) (c : Cde sz rs bs s) (hm : mayB rs bs s = true) :
    Cde sz rs (nxB rs bs s).2 (nxB rs bs s).1 ∧ mayF rs (nxB rs bs s).2 (nxB rs bs s).1 = true ∧ nxF rs (nxB rs bs s).2 (nxB rs bs s).1 = (s, bs) := by
  have hle := c.le
  obtain ⟨t, rfl⟩ : ∃ t, s = t + 1 := ⟨s - 1, by have := mayB_pos hm; omega⟩
  have hlt : t < rs.length := hle
  have hg := List.getElem?_eq_getElem hlt
  have hok := c.ro _ (List.getElem_mem hlt)
  have fin : ∀ row : Row, rs[t] = row → row.plain = true → Cde sz rs (nxB rs bs (t + 1)).2 (nxB rs bs (t + 1)).1 ∧ mayF rs (nxB rs bs (t + 1)).2 (nxB rs bs (t + 1)).1 = true ∧ nxF rs (nxB rs bs (t + 1)).2 (nxB rs bs (t + 1)).1 = (t + 1, bs) := by
    intro row hrow hpl
    have h2 := plainB (bs := bs) hlt (by rw [hrow]; exact hpl)
    have h1 := plainF (bs := stp (-1) bs row) hlt (by rw [hrow]; exact hpl)
    rw [hrow] at h1 h2 hok
    rw [h2.2]
    have sb := stp_back (s := -1) (.inr rfl) c.bo hok
    rw [show (-(-1) : Int) = 1 from rfl] at sb
    refine ⟨⟨stp_ok c.bo hok, c.ro, Nat.le_of_lt hlt⟩, h1.1, ?_⟩
    show nxF rs (stp (-1) bs row) t = _
    rw [h1.2, sb]
  cases hrow : rs[t] with
  | add x o => exact fin _ hrow rfl
  | take x o => exact fin _ hrow rfl
  | turn x i cs => exact fin _ hrow rfl
  | swap x y => exact fin _ hrow rfl
  | come x n k =>
    have hk := hp.co t x n k (by rw [hg, hrow])
    have hkl := lt_of hk
    by_cases h : gt bs x = n
    · have e : nxB rs bs (t + 1) = (k, bs) := by unfold nxB; rw [Nat.add_sub_cancel, hg, hrow]; simp [h]
      rw [e]
      refine ⟨⟨c.bo, c.ro, Nat.le_of_lt hkl⟩, ?_, ?_⟩
      · show mayF rs bs k = true
        unfold mayF; rw [hk]
      · show nxF rs bs k = (t + 1, bs)
        unfold nxF; rw [hk]; simp [h]
    · have e : nxB rs bs (t + 1) = (t, bs) := by unfold nxB; rw [Nat.add_sub_cancel, hg, hrow]; simp [h]
      rw [e]
      refine ⟨⟨c.bo, c.ro, Nat.le_of_lt hlt⟩, ?_, ?_⟩
      · show mayF rs bs t = true
        unfold mayF; rw [hg, hrow]; simp [h]
      · show nxF rs bs t = (t + 1, bs)
        unfold nxF; rw [hg, hrow]; rfl
  | go x n k =>
    have h : ¬ gt bs x = n := by unfold mayB at hm; rw [if_neg (by omega), Nat.add_sub_cancel, hg, hrow] at hm; simpa using hm
    have e : nxB rs bs (t + 1) = (t, bs) := by unfold nxB; rw [Nat.add_sub_cancel, hg, hrow]; rfl
    rw [e]
    refine ⟨⟨c.bo, c.ro, Nat.le_of_lt hlt⟩, ?_, ?_⟩
    · show mayF rs bs t = true
      unfold mayF; rw [hg, hrow]
    · show nxF rs bs t = (t + 1, bs)
      unfold nxF; rw [hg, hrow]; simp [h]
/-! rows that are still to be laid -/
noncomputable def od : Option Row → D
  | none => .non
  | some r => r.d
structure PairsO (os : List (Option Row)) : Prop where
  go : ∀ (j x : Nat) (n : Int) (k : Nat), os[j]? = some (some (Row.go x n k)) → os[k]? = some (some (.come x n j))
  co : ∀ (j x : Nat) (n : Int) (k : Nat), os[j]? = some (some (Row.come x n k)) → os[k]? = some (some (.go x n j))
theorem PairsO.plain {os : List (Option Row)} {i : Nat} {r : Row} (h : PairsO os) (hi : os[i]? = some none) (hr : r.plain = true) : PairsO (os.set i (some r)) := by
  have hl := lt_of hi
  refine ⟨fun j x n k e => ?_, fun j x n k e => ?_⟩
  · rw [List.getElem?_set] at e ⊢
    by_cases hj : i = j
    · subst hj; rw [if_pos rfl, if_pos hl] at e; cases e; cases hr
    · rw [if_neg hj] at e
      have q := h.go j x n k e
      by_cases hk : i = k
      · subst hk; rw [hi] at q; cases q
      · rw [if_neg hk]; exact q
  · rw [List.getElem?_set] at e ⊢
    by_cases hj : i = j
    · subst hj; rw [if_pos rfl, if_pos hl] at e; cases e; cases hr
    · rw [if_neg hj] at e
      have q := h.co j x n k e
      by_cases hk : i = k
      · subst hk; rw [hi] at q; cases q
      · rw [if_neg hk]; exact q
/-- a go and its come laid (either ahead) -/
theorem PairsO.pair {os : List (Option Row)} {i l : Nat} {x : Nat} {n : Int} {a b : Row} (h : PairsO os) (hi : os[i]? = some none) (hl : os[l]? = some none) (hne : l ≠ i) (hab : (a = .go x n l ∧ b = .come x n i) ∨ (a = .come x n l ∧ b = .go x n i)) :
    PairsO ((os.set i (some a)).set l (some b)) := by
  have li := lt_of hi
  have ll := lt_of hl
  have at_ : ∀ j, ((os.set i (some a)).set l (some b))[j]? = if j = l then some (some b) else if j = i then some (some a) else os[j]? := by
    intro j
    rw [List.getElem?_set, List.getElem?_set, List.length_set]
    by_cases h1 : l = j
    · subst h1; simp [ll]
    · rw [if_neg h1, if_neg (Ne.symm h1)]
      by_cases h2 : i = j
      · subst h2; simp [li]
      · rw [if_neg h2, if_neg (Ne.symm h2)]
  refine ⟨fun j y m k e => ?_, fun j y m k e => ?_⟩
  · rw [at_] at e ⊢
    by_cases hj : j = l
    · subst hj
      rw [if_pos rfl] at e
      rcases hab with ⟨ha, hb⟩ | ⟨ha, hb⟩
      · rw [hb] at e; cases e
      · rw [hb] at e; cases e; rw [if_neg (Ne.symm hne), if_pos rfl, ha]
    · rw [if_neg hj] at e
      by_cases hji : j = i
      · subst hji
        rw [if_pos rfl] at e
        rcases hab with ⟨ha, hb⟩ | ⟨ha, hb⟩
        · rw [ha] at e; cases e; rw [if_pos rfl, hb]
        · rw [ha] at e; cases e
      · rw [if_neg hji] at e
        have q := h.go j y m k e
        by_cases k1 : k = l
        · subst k1; rw [hl] at q; cases q
        · by_cases k2 : k = i
          · subst k2; rw [hi] at q; cases q
          · rw [if_neg k1, if_neg k2]; exact q
  · rw [at_] at e ⊢
    by_cases hj : j = l
    · subst hj
      rw [if_pos rfl] at e
      rcases hab with ⟨ha, hb⟩ | ⟨ha, hb⟩
      · rw [hb] at e; cases e; rw [if_neg (Ne.symm hne), if_pos rfl, ha]
      · rw [hb] at e; cases e
    · rw [if_neg hj] at e
      by_cases hji : j = i
      · subst hji
        rw [if_pos rfl] at e
        rcases hab with ⟨ha, hb⟩ | ⟨ha, hb⟩
        · rw [ha] at e; cases e
        · rw [ha] at e; cases e; rw [if_pos rfl, hb]
      · rw [if_neg hji] at e
        have q := h.co j y m k e
        by_cases k1 : k = l
        · subst k1; rw [hl] at q; cases q
        · by_cases k2 : k = i
          · subst k2; rw [hi] at q; cases q
          · rw [if_neg k1, if_neg k2]; exact q
theorem PairsO.empty {m : Nat} : PairsO (List.replicate m none) := by
  refine ⟨fun j x n k e => ?_, fun j x n k e => ?_⟩ <;> (rw [List.getElem?_replicate] at e; split at e <;> cases e)
/-- all rows are laid -/
theorem all_laid {os : List (Option Row)} (h : ∀ j, j < os.length → ∃ r, os[j]? = some (some r)) : ∃ rs : List Row, os = rs.map some := by
  induction os with
  | nil => exact ⟨[], rfl⟩
  | cons o os ih =>
    obtain ⟨r, hr⟩ := h 0 (by simp)
    obtain ⟨rs, hrs⟩ := ih fun j hj => by
      obtain ⟨r, e⟩ := h (j + 1) (by simpa using hj)
      exact ⟨r, by simpa using e⟩
    refine ⟨r :: rs, ?_⟩
    have : o = some r := by simpa using hr
    rw [this, hrs]; rfl
theorem PairsO.pairs {rs : List Row} (h : PairsO (rs.map some)) : Pairs rs := by
  have e : ∀ {j : Nat} {r : Row}, rs[j]? = some r ↔ (rs.map some)[j]? = some (some r) := fun {j r} => by
    rw [List.getElem?_map]
    cases rs[j]? <;> simp
  exact ⟨fun j x n k q => e.mpr (h.go j x n k (e.mp q)), fun j x n k q => e.mpr (h.co j x n k (e.mp q))⟩
theorem od_laid {rs : List Row} : (rs.map some).map od = rs.map Row.d := by rw [List.map_map]; rfl
end Law

namespace Law
open PySem L2 L3 Rw
/-- a place and its boxes, laid at an address -/
structure Ent where
  s : Nat
  q : Addr
  bs : List Int
noncomputable def Ent.d (e : Ent) : D := .tup [.int (e.s : Int), .ref e.q]
theorem StAt.grow {G G' : Gp} {st : Addr} (h : StAt G st) (g : Grow G G') : StAt G' st := by
  obtain ⟨a, ns, k, r, h1, h2, h3⟩ := h.ex
  exact ⟨a, ns, k, r, g.kp _ _ h1, g.kp _ _ h2, h3⟩
end Law

namespace Law
open PySem L2 L3 Rw
theorem fl_all {ra ha : Addr} {s : Nat} : List.lookup ("rows" : Str) (flds ra ha s) = some (D.ref ra) ∧ List.lookup ("held" : Str) (flds ra ha s) = some (D.ref ha) ∧ List.lookup ("spot" : Str) (flds ra ha s) = some (D.int (s : Int)) ∧
    List.lookup ("place" : Str) (flds ra ha s) = none ∧ List.lookup ("boxes" : Str) (flds ra ha s) = none ∧ List.lookup ("forth" : Str) (flds ra ha s) = none ∧ List.lookup ("back" : Str) (flds ra ha s) = none ∧ List.lookup ("at_end" : Str) (flds ra ha s) = none ∧ List.lookup ("at_begin" : Str) (flds ra ha s) = none ∧
    List.lookup ("may_forth" : Str) (flds ra ha s) = none ∧ List.lookup ("may_back" : Str) (flds ra ha s) = none ∧ (∀ v : D, putD ("spot" : Str) v (flds ra ha s) = ([("rows", .ref ra), ("held", .ref ha), ("spot", v)] : List (Str × D))) := by
  refine ⟨?_, ?_, ?_, ?_, ?_, ?_, ?_, ?_, ?_, ?_, ?_, fun v => ?_⟩ <;> simp only [flds, sf_all, beq_self_eq_true, List.lookup_cons, List.lookup_nil, putD, if_false, if_true]
theorem fl_len {ra ha : Addr} {s : Nat} : (flds ra ha s).length < 1000 := show 3 < 1000 by decide
end Law
namespace Law
open PySem L2 L3 Rw
theorem kindsF (r : Row) : (∃ x m k, r = .go x m k) ∨ ∃ w rest, r.d = .tup (.str w :: rest) ∧ (w = ("go" : Str)) = False ∧ ∀ (rs : List Row) (bs : List Int) (s : Nat), rs[s]? = some r → nxF rs bs s = (s + 1, stp 1 bs r) := by
  cases r with
  | go x m k => exact .inl ⟨x, m, k, rfl⟩
  | come x m k => exact .inr ⟨_, _, rfl, sn_come_go, fun rs bs s h => by unfold nxF; rw [h]⟩
  | add x o => exact .inr ⟨_, _, rfl, sn_add_go, fun rs bs s h => by unfold nxF; rw [h]⟩
  | take x o => exact .inr ⟨_, _, rfl, sn_take_go, fun rs bs s h => by unfold nxF; rw [h]⟩
  | turn x i cs => exact .inr ⟨_, _, rfl, sn_turn_go, fun rs bs s h => by unfold nxF; rw [h]⟩
  | swap x y => exact .inr ⟨_, _, rfl, sn_swap_go, fun rs bs s h => by unfold nxF; rw [h]⟩
theorem kindsB (r : Row) : (∃ x m k, r = .come x m k) ∨ ∃ w rest, r.d = .tup (.str w :: rest) ∧ (w = ("come" : Str)) = False ∧ ∀ (rs : List Row) (bs : List Int) (s : Nat), rs[s - 1]? = some r → nxB rs bs s = (s - 1, stp (-1) bs r) := by
  cases r with
  | come x m k => exact .inl ⟨x, m, k, rfl⟩
  | go x m k => exact .inr ⟨_, _, rfl, sn_go_come, fun rs bs s h => by unfold nxB; rw [h]⟩
  | add x o => exact .inr ⟨_, _, rfl, sn_add_come, fun rs bs s h => by unfold nxB; rw [h]⟩
  | take x o => exact .inr ⟨_, _, rfl, sn_take_come, fun rs bs s h => by unfold nxB; rw [h]⟩
  | turn x i cs => exact .inr ⟨_, _, rfl, sn_turn_come, fun rs bs s h => by unfold nxB; rw [h]⟩
  | swap x y => exact .inr ⟨_, _, rfl, sn_swap_come, fun rs bs s h => by unfold nxB; rw [h]⟩
/-- a go, a come, or another -/
theorem kinds3 (r : Row) : (∃ x m k, r = .go x m k) ∨ (∃ x m k, r = .come x m k) ∨ ∃ w rest, r.d = .tup (.str w :: rest) ∧ (w = ("go" : Str)) = False ∧ (w = ("come" : Str)) = False ∧ r.plain = true := by
  cases r with
  | go x m k => exact .inl ⟨x, m, k, rfl⟩
  | come x m k => exact .inr (.inl ⟨x, m, k, rfl⟩)
  | add x o => exact .inr (.inr ⟨_, _, rfl, sn_add_go, sn_add_come, rfl⟩)
  | take x o => exact .inr (.inr ⟨_, _, rfl, sn_take_go, sn_take_come, rfl⟩)
  | turn x i cs => exact .inr (.inr ⟨_, _, rfl, sn_turn_go, sn_turn_come, rfl⟩)
  | swap x y => exact .inr (.inr ⟨_, _, rfl, sn_swap_go, sn_swap_come, rfl⟩)
end Law

namespace L3
open PySem PySem.Spec PyProof.Rows L2
theorem mem2 {w a b : Str} : decide (w ∈ [a, b]) = (decide (w = a) || decide (w = b)) := by
  by_cases h1 : w = a
  · simp [h1]
  · by_cases h2 : w = b
    · simp [h2]
    · simp [h1, h2]
theorem xin_all : (∀ w a b G q, xInB false (.str w) (.tup [.str a, .str b]) G q = q (.bl (decide (w = a) || decide (w = b))) G) ∧ (∀ w a b G q, xInB true (.str w) (.tup [.str a, .str b]) G q = q (.bl (!(decide (w = a) || decide (w = b)))) G) ∧
    (∀ v a G q, xInB true (.int v) (.ref a) G q = (match seqOf (G a) with | some ds => (match intsOf ds with | some ws => q (.bl (!decide (v ∈ ws))) G | none => False) | none => False)) ∧
    (∀ v a G q, xInB false (.int v) (.ref a) G q = (match seqOf (G a) with | some ds => (match intsOf ds with | some ws => q (.bl (decide (v ∈ ws))) G | none => False) | none => False)) ∧
    (∀ i j G q, xEqB true (.bl i) (.bl j) G q = q (.bl (!decide (i = j))) G) ∧ (∀ i j G q, xEqB false (.bl i) (.bl j) G q = q (.bl (decide (i = j))) G) ∧
    (∀ a b G q, xAdd (.ref a) (.ref b) G q = (match G a, G b with | some (.lst xs), some (.lst ys) => xs.length + ys.length ≤ sizeLine ∧ ∀ p, G p = none → q (.ref p) (gup G p (.lst (xs ++ ys))) | _, _ => False)) ∧ ((2 ≤ sizeLine) = True) := by
  refine ⟨fun w a b G q => ?_, fun w a b G q => ?_, fun _ _ _ _ => rfl, fun _ _ _ _ => rfl, fun _ _ _ _ => rfl, fun _ _ _ _ => rfl, fun _ _ _ _ => rfl, eq_true (by decide)⟩
  · show q (.bl (decide (w ∈ [a, b]))) G = _
    rw [mem2]
  · show q (.bl (!decide (w ∈ [a, b]))) G = _
    rw [mem2]
theorem allBl_rep : ∀ m : Nat, allBl (List.replicate m (.bl true)) = some (List.replicate m true)
  | 0 => rfl
  | m + 1 => by rw [List.replicate_succ, allBl, allBl_rep m]; rfl
theorem all_rep (m : Nat) : (List.replicate m true).all id = true := by simp
end L3
namespace Rw
open PySem L2 L3
/-- what a row reads, its bits, its numbers -/
noncomputable def rb : Row → List Int
  | .add _ (.box y) => [(y : Int)]
  | .take _ (.box y) => [(y : Int)]
  | .turn _ _ cs => cs.map fun c => (c.1 : Int)
  | .swap _ y => [(y : Int)]
  | _ => []
noncomputable def Row.x : Row → Nat
  | .add x _ => x
  | .take x _ => x
  | .turn x _ _ => x
  | .swap x _ => x
  | .go x _ _ => x
  | .come x _ _ => x
end Rw
namespace Law
open PySem L2 L3 Rw
/-- a step either way -/
noncomputable def mayX (fw : Bool) (rs : List Row) (bs : List Int) (s : Nat) : Bool := if fw = true then mayF rs bs s else mayB rs bs s
noncomputable def nxX (fw : Bool) (rs : List Row) (bs : List Int) (s : Nat) : Nat × List Int := if fw = true then nxF rs bs s else nxB rs bs s
theorem undoX {fw : Bool} {rs : List Row} {bs : List Int} {s sz : Nat} (hp : Pairs rs) (c : Cde sz rs bs s) (hm : mayX fw rs bs s = true) :
    Cde sz rs (nxX fw rs bs s).2 (nxX fw rs bs s).1 ∧ mayX (!fw) rs (nxX fw rs bs s).2 (nxX fw rs bs s).1 = true ∧ nxX (!fw) rs (nxX fw rs bs s).2 (nxX fw rs bs s).1 = (s, bs) := by
  cases fw with
  | true => exact undoF hp c hm
  | false => exact undoB hp c hm
/-- where a ride came from, and how -/
structure Ent2 where
  fw : Bool
  s : Nat
  q : Addr
  bs : List Int
noncomputable def Ent2.d (e : Ent2) : D := .tup [.bl e.fw, .int (e.s : Int), .ref e.q]
end Law




namespace L2
open PySem PySem.Spec PyProof.Rows
section
variable {X : Cx} {x : Str} {p pos : Pos} {e : Expr} {es : List Expr} {t : TA} {CX : CXT} {k i : Nat} {E : XK}
/-- f(..) where the name f holds one of two functions of the text -/
noncomputable def tCallV (i : Nat) (f1 f2 : Addr) (sp1 sp2 : Sp) (E : XK) (t : TA) : TE := fun σ H Q => (σ[i]? = some (some (.ref f1)) ∧ tCall sp1 [] E t σ H Q) ∨ (σ[i]? = some (some (.ref f2)) ∧ tCall sp2 [] E t σ H Q)
theorem pe_callV {f1 f2 : Addr} {fd1 fd2 : FuncData} {ps1 ps2 : List Str} {sp1 sp2 : Sp} (F1 : FnOk X.prog X.w X.K X.mg X.base CX k f1 fd1 ps1 sp1) (F2 : FnOk X.prog X.w X.K X.mg X.base CX k f2 fd2 ps2 sp2) (hr : Room k X.A) (hN : X.N[i]? = some x) (hv : Vis X.env.scope x)
    (hk1 : PySem.W.keepIn X.K (.ref f1) = true) (hk2 : PySem.W.keepIn X.K (.ref f2) = true) (hb1 : Binds X.K fd1 ps1 []) (hb2 : Binds X.K fd2 ps2 []) (hx : Passes CX X E)
    (ha : PA X (e :: es) t) (hdb : (x == ("__debug__" : Str)) = false := by decide) (hcd : (x == ("__classdict__" : Str)) = false := by decide) (he : starEach (e :: es) X.env = (false, eval e X.env) :: starEach es X.env := by rfl) (hpl : (backTo pos (starEach es X.env)).any (·.1) = false := by rfl) :
    PE X (.Call (.Name x p) (e :: es) [] pos) (tCallV i f1 f2 sp1 sp2 E t) := by
  intro pins s σ H Q I h
  rcases h with ⟨h1, h⟩ | ⟨h1, h⟩
  · refine wpAny_Call_Name_kw (thn (pe_var hN hv hdb hcd pins s σ H (fun v H' => v = .ref f1 ∧ H' = H) I ⟨.ref f1, h1, rfl, rfl⟩) fun u s1 ⟨v, H1, I1, r1, q1⟩ => ?_)
    obtain ⟨rfl, rfl⟩ := q1
    cases (show u = Value.ref f1 from r1)
    refine PySem.W.callWith_K (h₀ := X.base) I1.ok.mod.kin hk1 (thn (ha pos pins s1 σ H1 _ I1 h) fun us s2 ⟨vs, H2, I2, r, q⟩ => ⟨I2.kIn, ?_⟩) he hpl
    exact run_fn F1 hr hb1 .nil hx I2 r q
  · refine wpAny_Call_Name_kw (thn (pe_var hN hv hdb hcd pins s σ H (fun v H' => v = .ref f2 ∧ H' = H) I ⟨.ref f2, h1, rfl, rfl⟩) fun u s1 ⟨v, H1, I1, r1, q1⟩ => ?_)
    obtain ⟨rfl, rfl⟩ := q1
    cases (show u = Value.ref f2 from r1)
    refine PySem.W.callWith_K (h₀ := X.base) I1.ok.mod.kin hk2 (thn (ha pos pins s1 σ H1 _ I1 h) fun us s2 ⟨vs, H2, I2, r, q⟩ => ⟨I2.kIn, ?_⟩) he hpl
    exact run_fn F2 hr hb2 .nil hx I2 r q
end
end L2
namespace L3
open PySem PySem.Spec PyProof.Rows L2
section
variable {X : Cx} {x : Str} {p pos : Pos} {e : Expr} {es : List Expr} {ts : TA3} {k i : Nat} {S1 S2 : Sp3}
noncomputable def dCallV (i : Nat) (f1 f2 : Addr) (S1 S2 : Sp3) (t : TA3) : TE3 := fun σ G q => match σ[i]? with
  | some (some (.ref a)) => (a = f1 ∧ dCall S1 [] t σ G q) ∨ (a = f2 ∧ dCall S2 [] t σ G q)
  | _ => False
theorem low_callV {K : PySem.W.Frag} {f1 f2 : Addr} {σ : L2.St} {H : Hp} {Q : VK} (h : lowE K (dCallV i f1 f2 S1 S2 ts) σ H Q) : tCallV i f1 f2 (lowSp K S1) (lowSp K S2) E0 (lowA K ts) σ H Q := by
  obtain ⟨σd, G, q, rs, c, t, f⟩ := h
  unfold dCallV at t
  split at t
  · rename_i a ea
    obtain ⟨v, hv, rv⟩ := rs.2 i _ ea
    cases rv.ref_inv
    rcases t with ⟨rfl, t⟩ | ⟨rfl, t⟩
    · exact .inl ⟨hv, low_call (fun _ => .nil) ⟨σd, G, q, rs, c, t, f⟩⟩
    · exact .inr ⟨hv, low_call (fun _ => .nil) ⟨σd, G, q, rs, c, t, f⟩⟩
  · exact t.elim
theorem ec2 {f1 f2 : Addr} {x1 q1 x2 q2 : Str} {st1 st2 : Stmt} {ps1 ps2 : List Str} (d1 : FnAt X.K x1 q1 st1 ps1) (d2 : FnAt X.K x2 q2 st2 ps2) (G1 : FnOk X.prog X.w X.K X.mg X.base CX0 k d1.a d1.fd ps1 (lowSp X.K S1)) (G2 : FnOk X.prog X.w X.K X.mg X.base CX0 k d2.a d2.fd ps2 (lowSp X.K S2)) (hr : Room k X.A) (_hv : E3 X (.Name x p) (dVar i)) (ha : A3 X (e :: es) ts)
    (hf1 : f1 = d1.a := by rfl) (hf2 : f2 = d2.a := by rfl) (hN : X.N[i]? = some x := by rfl) (hv : Vis X.env.scope x := by first | exact Or.inl rfl | exact Or.inr (Or.inl rfl) | exact Or.inr (Or.inr rfl)) (hdb : (x == ("__debug__" : Str)) = false := by decide) (hcd : (x == ("__classdict__" : Str)) = false := by decide)
    (he : starEach (e :: es) X.env = (false, eval e X.env) :: starEach es X.env := by rfl) (hpl : (backTo pos (starEach es X.env)).any (·.1) = false := by rfl) : E3 X (.Call (.Name x p) (e :: es) [] pos) (dCallV i f1 f2 S1 S2 ts) := by
  subst hf1 hf2
  exact weakE (pe_callV G1 G2 hr hN hv d1.kp d2.kp d1.b d2.b pass0 ha hdb hcd he hpl) fun _ _ _ => low_callV
theorem e_fun {a : Addr} (hm : X.mg x = some (.ref a)) (hg : Gl X x := by rfl) (hdb : (x == ("__debug__" : Str)) = false := by decide) : E3 X (.Name x pos) (dC (.ref a)) :=
  e_glob hg hm (v := .ref a) rfl (fun _ => RelD.refI) hdb
end
end L3

namespace Law
open PySem L2 L3 Rw
/-! runs -/
noncomputable def rn (fw : Bool) (rs : List Row) : Nat → Nat → List Int → Nat × Nat × List Int
  | 0, s, bs => (0, s, bs)
  | n + 1, s, bs => if mayX fw rs bs s = true then ((rn fw rs n (nxX fw rs bs s).1 (nxX fw rs bs s).2).1 + 1, (rn fw rs n (nxX fw rs bs s).1 (nxX fw rs bs s).2).2) else (0, s, bs)
noncomputable def wrd (fw : Bool) (rs : List Row) (bs : List Int) (s : Nat) : Str :=
  if s = (if fw = true then rs.length else 0) then (if fw = true then "end" else "begin") else if mayX fw rs bs s = true then "tired" else "torn"
noncomputable def outD (fw : Bool) (rs : List Row) (r : Nat × Nat × List Int) (q : Addr) : D := .tup [.str (wrd fw rs r.2.2 r.2.1), .int (r.2.1 : Int), .ref q, .int (r.1 : Int)]
theorem rn_go {fw : Bool} {rs : List Row} {n s : Nat} {bs : List Int} (h : mayX fw rs bs s = true) : rn fw rs (n + 1) s bs = ((rn fw rs n (nxX fw rs bs s).1 (nxX fw rs bs s).2).1 + 1, (rn fw rs n (nxX fw rs bs s).1 (nxX fw rs bs s).2).2) := by
  show (if mayX fw rs bs s = true then _ else _) = _
  rw [if_pos h]
theorem rn_stop {fw : Bool} {rs : List Row} {n s : Nat} {bs : List Int} (h : mayX fw rs bs s = false) : rn fw rs n s bs = (0, s, bs) := by
  cases n with
  | zero => rfl
  | succ n => show (if mayX fw rs bs s = true then _ else _) = _; rw [if_neg (by rw [h]; exact Bool.false_ne_true)]
theorem rn_le {fw : Bool} {rs : List Row} : ∀ {n s : Nat} {bs : List Int}, (rn fw rs n s bs).1 ≤ n
  | 0, _, _ => Nat.le_refl _
  | n + 1, s, bs => by
    cases h : mayX fw rs bs s with
    | false => rw [rn_stop h]; exact Nat.zero_le _
    | true => rw [rn_go h]; exact Nat.succ_le_succ rn_le
theorem rn_cde {fw : Bool} {rs : List Row} {sz : Nat} (hp : Pairs rs) : ∀ {n s : Nat} {bs : List Int}, Cde sz rs bs s → Cde sz rs (rn fw rs n s bs).2.2 (rn fw rs n s bs).2.1
  | 0, _, _, c => c
  | n + 1, s, bs, c => by
    cases h : mayX fw rs bs s with
    | false => rw [rn_stop h]; exact c
    | true => rw [rn_go h]; exact rn_cde hp (undoX hp c h).1
/-- k steps are done, the rest is the run from here -/
structure RnI (fw : Bool) (rs : List Row) (most s0 : Nat) (bs0 : List Int) (k s : Nat) (bs : List Int) : Prop where
  le : k ≤ most
  eq : rn fw rs most s0 bs0 = (k + (rn fw rs (most - k) s bs).1, (rn fw rs (most - k) s bs).2)
theorem RnI.init {fw : Bool} {rs : List Row} {most s0 : Nat} {bs0 : List Int} : RnI fw rs most s0 bs0 0 s0 bs0 := ⟨Nat.zero_le _, by rw [Nat.sub_zero, Nat.zero_add]⟩
theorem RnI.step {fw : Bool} {rs : List Row} {most s0 k s : Nat} {bs0 bs : List Int} (h : RnI fw rs most s0 bs0 k s bs) (hk : k < most) (hm : mayX fw rs bs s = true) : RnI fw rs most s0 bs0 (k + 1) (nxX fw rs bs s).1 (nxX fw rs bs s).2 := by
  refine ⟨hk, ?_⟩
  rw [h.eq, show most - k = (most - (k + 1)) + 1 by omega, rn_go hm]
  show (k + ((rn fw rs (most - (k + 1)) _ _).1 + 1), _) = _
  rw [show ∀ a : Nat, k + (a + 1) = k + 1 + a from fun a => by omega]
theorem RnI.stop {fw : Bool} {rs : List Row} {most s0 k s : Nat} {bs0 bs : List Int} (h : RnI fw rs most s0 bs0 k s bs) (hk : ¬ k < most ∨ mayX fw rs bs s = false) : rn fw rs most s0 bs0 = (k, s, bs) := by
  have e : rn fw rs (most - k) s bs = (0, s, bs) := by
    rcases hk with hk | hk
    · have := h.le
      rw [show most - k = 0 by omega]; rfl
    · exact rn_stop hk
  rw [h.eq, e]; rfl
/-- as many steps back as were done forth -/
theorem rn_back {rs : List Row} {sz : Nat} (hp : Pairs rs) : ∀ {n s : Nat} {bs : List Int} (m : Nat), Cde sz rs bs s → (rn true rs n s bs).1 ≤ m →
    rn false rs m (rn true rs n s bs).2.1 (rn true rs n s bs).2.2 = ((rn true rs n s bs).1 + (rn false rs (m - (rn true rs n s bs).1) s bs).1, (rn false rs (m - (rn true rs n s bs).1) s bs).2)
  | 0, s, bs, m, _, _ => by show rn false rs m s bs = (0 + (rn false rs (m - 0) s bs).1, (rn false rs (m - 0) s bs).2); rw [Nat.zero_add, Nat.sub_zero]
  | n + 1, s, bs, m, c, hm => by
    cases h : mayX true rs bs s with
    | false =>
      rw [rn_stop h]
      show rn false rs m s bs = (0 + (rn false rs (m - 0) s bs).1, (rn false rs (m - 0) s bs).2)
      rw [Nat.zero_add, Nat.sub_zero]
    | true =>
      have un := undoX hp c h
      rw [rn_go h] at hm ⊢
      have hm' : (rn true rs n (nxX true rs bs s).1 (nxX true rs bs s).2).1 + 1 ≤ m := hm
      have ih := rn_back hp (n := n) m un.1 (by omega)
      show rn false rs m (rn true rs n (nxX true rs bs s).1 (nxX true rs bs s).2).2.1 (rn true rs n (nxX true rs bs s).1 (nxX true rs bs s).2).2.2 = ((rn true rs n (nxX true rs bs s).1 (nxX true rs bs s).2).1 + 1 + _, _)
      rw [ih]
      generalize (rn true rs n (nxX true rs bs s).1 (nxX true rs bs s).2).1 = a at hm' ⊢
      have h2 : mayX false rs (nxX true rs bs s).2 (nxX true rs bs s).1 = true := un.2.1
      have h3 : nxX false rs (nxX true rs bs s).2 (nxX true rs bs s).1 = (s, bs) := un.2.2
      rw [show m - a = (m - (a + 1)) + 1 by omega, rn_go h2, h3]
      show (a + ((rn false rs (m - (a + 1)) s bs).1 + 1), _) = (a + 1 + (rn false rs (m - (a + 1)) s bs).1, _)
      rw [show ∀ b : Nat, a + (b + 1) = a + 1 + b from fun b => by omega]
/-! results compared -/
theorem snap_out {G : Gp} {a b : Addr} {ks : List Int} {pre post : List D} (h1 : seqOf (G a) = some (ks.map .int)) (h2 : seqOf (G b) = some (ks.map .int)) (hpre : ∀ d ∈ pre, ∃ s, snap G 1 d = some s) (hpost : ∀ d ∈ post, ∃ s, snap G 1 d = some s) :
    ∃ s, snap G 2 (.tup (pre ++ .ref a :: post)) = some s ∧ snap G 2 (.tup (pre ++ .ref b :: post)) = some s := by
  have e : snap G 1 (.ref a) = snap G 1 (.ref b) := snap_ref (by rw [h1, h2])
  obtain ⟨s, hs⟩ := snap_tup (G := G) (n := 1) (ds := pre ++ .ref a :: post) fun d hd => by
    rcases List.mem_append.mp hd with q | q
    · exact hpre d q
    · rcases List.mem_cons.mp q with rfl | q
      · exact ⟨_, snap_ints h1⟩
      · exact hpost d q
  refine ⟨s, hs, ?_⟩
  rw [← hs]
  show ((pre ++ .ref b :: post).mapM (snap G 1)).map Sn.tup = ((pre ++ .ref a :: post).mapM (snap G 1)).map Sn.tup
  rw [List.mapM_append, List.mapM_append, List.mapM_cons, List.mapM_cons, e]
theorem cmp_out {G : Gp} {a b : Addr} {ks : List Int} {w : Str} {i j : Int} {Q : Bool → Prop} (h1 : seqOf (G a) = some (ks.map .int)) (h2 : seqOf (G b) = some (ks.map .int)) (h : Q true) :
    ∃ n sd se r, n ≤ 40 ∧ snap G n (.tup [.str w, .int i, .ref a, .int j]) = some sd ∧ snap G n (.tup [.str w, .int i, .ref b, .int j]) = some se ∧ eqN n sd se = some r ∧ Q r := by
  obtain ⟨s, e1, e2⟩ := snap_out (pre := [.str w, .int i]) (post := [.int j]) h1 h2 (all2 snap_str (all1 snap_int)) (all1 snap_int)
  exact ⟨2, s, s, true, by decide, e1, e2, eq_self 2 e1, h⟩
theorem cmp_out3 {G : Gp} {a b : Addr} {ks : List Int} {i j : Int} {Q : Bool → Prop} (h1 : seqOf (G a) = some (ks.map .int)) (h2 : seqOf (G b) = some (ks.map .int)) (h : Q true) :
    ∃ n sd se r, n ≤ 40 ∧ snap G n (.tup [.int i, .ref a, .int j]) = some sd ∧ snap G n (.tup [.int i, .ref b, .int j]) = some se ∧ eqN n sd se = some r ∧ Q r := by
  obtain ⟨s, e1, e2⟩ := snap_out (pre := [.int i]) (post := [.int j]) h1 h2 (all1 snap_int) (all1 snap_int)
  exact ⟨2, s, s, true, by decide, e1, e2, eq_self 2 e1, h⟩
/-! a round without end -/
noncomputable def L5 : List Row := [.go 0 0 2, .come 1 0 4, .come 0 0 0, .add 0 (.num 1), .go 1 0 1]
theorem L5_ok : ∀ r ∈ L5, r.ok 2 := by
  intro r hr
  simp only [L5, List.mem_cons, List.not_mem_nil, or_false] at hr
  rcases hr with rfl | rfl | rfl | rfl | rfl <;> simp [Row.ok, Opd.ok]
theorem L5_pairs : Pairs L5 := by
  refine ⟨fun j x n k e => ?_, fun j x n k e => ?_⟩ <;>
  · have hj : j < 5 := lt_of e
    have : j = 0 ∨ j = 1 ∨ j = 2 ∨ j = 3 ∨ j = 4 := by omega
    rcases this with rfl | rfl | rfl | rfl | rfl <;> first | (cases e; done) | (cases e; rfl)
noncomputable def C5 (c s : Nat) (bs : List Int) : Prop := bs = [(c : Int), 0] ∧ (s = 3 ∨ (s = 4 ∧ 1 ≤ c) ∨ (s = 2 ∧ 1 ≤ c))
theorem C5_go {c s : Nat} {bs : List Int} (h : C5 c s bs) (hc : c < 100000) : s ≠ 5 ∧ mayX true L5 bs s = true ∧ ∃ c', c' ≤ c + 1 ∧ C5 c' (nxX true L5 bs s).1 (nxX true L5 bs s).2 := by
  obtain ⟨rfl, rfl | ⟨rfl, h1⟩ | ⟨rfl, h1⟩⟩ := h
  · refine ⟨by decide, rfl, c + 1, Nat.le_refl _, ?_, .inr (.inl ⟨rfl, by omega⟩)⟩
    show [((c : Int) + 1 * 1) % 4294967296, 0] = [((c + 1 : Nat) : Int), 0]
    have : ((c : Int) + 1 * 1) % 4294967296 = ((c + 1 : Nat) : Int) := by omega
    rw [this]
  · exact ⟨by decide, rfl, c, by omega, rfl, .inr (.inr ⟨rfl, h1⟩)⟩
  · refine ⟨by decide, ?_, c, by omega, rfl, .inl rfl⟩
    show (!decide ((c : Int) = 0)) = true
    have : ¬ (c : Int) = 0 := by omega
    rw [decide_eq_false this]; rfl
theorem wrd_tired {fw : Bool} {rs : List Row} {bs : List Int} {s : Nat} (h1 : ¬ s = (if fw = true then rs.length else 0)) (h2 : mayX fw rs bs s = true) : wrd fw rs bs s = "tired" := by unfold wrd; rw [if_neg h1, if_pos h2]
theorem C5_run : ∀ {n c s : Nat} {bs : List Int}, C5 c s bs → c + n < 100000 → (rn true L5 n s bs).1 = n ∧ ∃ c', C5 c' (rn true L5 n s bs).2.1 (rn true L5 n s bs).2.2 ∧ c' < 100000
  | 0, c, s, bs, h, hc => ⟨rfl, c, h, by omega⟩
  | n + 1, c, s, bs, h, hc => by
    obtain ⟨_, hm, c', hc', h'⟩ := C5_go h (by omega)
    have ih := C5_run (n := n) h' (by omega)
    rw [rn_go hm]
    exact ⟨congrArg (· + 1) ih.1, ih.2⟩
theorem L5_run {n : Nat} (h1 : 1 ≤ n) (h2 : n ≤ 5000) : (rn true L5 n 0 [0, 0]).1 = n ∧ wrd true L5 (rn true L5 n 0 [0, 0]).2.2 (rn true L5 n 0 [0, 0]).2.1 = "tired" := by
  obtain ⟨n, rfl⟩ : ∃ m, n = m + 1 := ⟨n - 1, by omega⟩
  have hm : mayX true L5 [0, 0] 0 = true := rfl
  have h0 : C5 0 (nxX true L5 [0, 0] 0).1 (nxX true L5 [0, 0] 0).2 := ⟨rfl, .inl rfl⟩
  obtain ⟨e, c', hc, hl⟩ := C5_run (n := n) h0 (by omega)
  rw [rn_go hm]
  refine ⟨congrArg (· + 1) e, ?_⟩
  obtain ⟨q1, q2, _⟩ := C5_go hc hl
  exact wrd_tired (show ¬ (rn true L5 n (nxX true L5 [0, 0] 0).1 (nxX true L5 [0, 0] 0).2).2.1 = L5.length from q1) q2
theorem le_all : ((0 ≤ sizeLine) = True) ∧ ((1 ≤ sizeLine) = True) ∧ ((2 ≤ sizeLine) = True) ∧ ((3 ≤ sizeLine) = True) ∧ ((4 ≤ sizeLine) = True) ∧ ((5 ≤ sizeLine) = True) ∧ ((7 ≤ sizeLine) = True) :=
  ⟨eq_true (by decide), eq_true (by decide), eq_true (by decide), eq_true (by decide), eq_true (by decide), eq_true (by decide), eq_true (by decide)⟩
theorem L5_back : rn false L5 1600 (rn true L5 1500 0 [0, 0]).2.1 (rn true L5 1500 0 [0, 0]).2.2 = (1500, 0, [0, 0]) := by
  have e := (L5_run (n := 1500) (by decide) (by decide)).1
  have h := rn_back (sz := 2) L5_pairs (n := 1500) (s := 0) (bs := [0, 0]) 1600 ⟨⟨rfl, by simp⟩, L5_ok, Nat.zero_le _⟩ (by rw [e]; decide)
  rw [h, e, rn_stop (show mayX false L5 [0, 0] 0 = false from rfl)]
  rfl
theorem L5_cde : Cde 2 L5 [0, 0] 0 := ⟨⟨rfl, by simp⟩, L5_ok, Nat.zero_le _⟩
end Law








namespace Law
open PySem L2 L3
set_option maxHeartbeats 4000000
noncomputable def top (i : Nat) : Stmt := PySem.Challenge.pw_nolitter_k19_runs.main.body.getD i (.Pass ⟨0, 0, 0, 0⟩)
noncomputable abbrev s_Ride_init : Stmt := inClass (top 2) 0
noncomputable abbrev s_Ride_place : Stmt := inClass (top 2) 1
noncomputable abbrev s_Ride_boxes : Stmt := inClass (top 2) 2
noncomputable abbrev s_Ride_forth : Stmt := inClass (top 2) 3
noncomputable abbrev s_Ride_back : Stmt := inClass (top 2) 4
noncomputable abbrev s_Ride_at_end : Stmt := inClass (top 2) 5
noncomputable abbrev s_Ride_at_begin : Stmt := inClass (top 2) 6
noncomputable abbrev s_Ride_may_forth : Stmt := inClass (top 2) 7
noncomputable abbrev s_Ride_may_back : Stmt := inClass (top 2) 8
noncomputable abbrev s_holds : Stmt := top 3
noncomputable abbrev s_change : Stmt := top 4
noncomputable abbrev s_operand_value : Stmt := top 5
noncomputable abbrev s_turn_bit : Stmt := top 6
noncomputable abbrev s_run_forth : Stmt := top 7
noncomputable abbrev s_run_back : Stmt := top 8
noncomputable abbrev s_word_of : Stmt := top 9
noncomputable abbrev s_law_draw : Stmt := top 11
noncomputable abbrev s_law_number : Stmt := top 12
noncomputable abbrev s_law_other : Stmt := top 13
noncomputable abbrev s_law_plain_row : Stmt := top 14
noncomputable abbrev s_law_bit : Stmt := top 15
noncomputable abbrev s_law_code : Stmt := top 16
noncomputable abbrev s_law_boxes : Stmt := top 17
noncomputable abbrev s_law_value : Stmt := top 18
noncomputable abbrev s_law_done : Stmt := top 19
noncomputable abbrev s_law_forth : Stmt := top 20
noncomputable abbrev s_law_back : Stmt := top 21
noncomputable abbrev s_law_run : Stmt := top 22
noncomputable abbrev s_law_same : Stmt := top 23
noncomputable abbrev s_law_long : Stmt := top 24
noncomputable abbrev s_law : Stmt := top 25
theorem sc_Ride_init : FnScope ["self", "code", "boxes", "place"] ["self", "code", "boxes", "place"] (defScope s_Ride_init) := ⟨rfl, rfl, rfl, by decide +kernel, rfl, by decide +kernel, by decide +kernel⟩
theorem sc_Ride_place : FnScope ["self"] ["self"] (defScope s_Ride_place) := ⟨rfl, rfl, rfl, by decide +kernel, rfl, by decide +kernel, by decide +kernel⟩
theorem sc_Ride_boxes : FnScope ["self"] ["self"] (defScope s_Ride_boxes) := ⟨rfl, rfl, rfl, by decide +kernel, rfl, by decide +kernel, by decide +kernel⟩
theorem sc_Ride_forth : FnScope ["self", "row"] ["self"] (defScope s_Ride_forth) := ⟨rfl, rfl, rfl, by decide +kernel, rfl, by decide +kernel, by decide +kernel⟩
theorem sc_Ride_back : FnScope ["self", "row"] ["self"] (defScope s_Ride_back) := ⟨rfl, rfl, rfl, by decide +kernel, rfl, by decide +kernel, by decide +kernel⟩
theorem sc_Ride_at_end : FnScope ["self"] ["self"] (defScope s_Ride_at_end) := ⟨rfl, rfl, rfl, by decide +kernel, rfl, by decide +kernel, by decide +kernel⟩
theorem sc_Ride_at_begin : FnScope ["self"] ["self"] (defScope s_Ride_at_begin) := ⟨rfl, rfl, rfl, by decide +kernel, rfl, by decide +kernel, by decide +kernel⟩
theorem sc_Ride_may_forth : FnScope ["self", "row"] ["self"] (defScope s_Ride_may_forth) := ⟨rfl, rfl, rfl, by decide +kernel, rfl, by decide +kernel, by decide +kernel⟩
theorem sc_Ride_may_back : FnScope ["self", "row"] ["self"] (defScope s_Ride_may_back) := ⟨rfl, rfl, rfl, by decide +kernel, rfl, by decide +kernel, by decide +kernel⟩
theorem sc_holds : FnScope ["row", "held"] ["row", "held"] (defScope s_holds) := ⟨rfl, rfl, rfl, by decide +kernel, rfl, by decide +kernel, by decide +kernel⟩
theorem sc_change : FnScope ["row", "held", "way", "first"] ["row", "held", "way"] (defScope s_change) := ⟨rfl, rfl, rfl, by decide +kernel, rfl, by decide +kernel, by decide +kernel⟩
theorem sc_operand_value : FnScope ["operand", "held"] ["operand", "held"] (defScope s_operand_value) := ⟨rfl, rfl, rfl, by decide +kernel, rfl, by decide +kernel, by decide +kernel⟩
theorem sc_turn_bit : FnScope ["row", "held", "cond"] ["row", "held"] (defScope s_turn_bit) := ⟨rfl, rfl, rfl, by decide +kernel, rfl, by decide +kernel, by decide +kernel⟩
theorem sc_run_forth : FnScope ["code", "boxes", "most", "ride", "steps", "word"] ["code", "boxes", "most"] (defScope s_run_forth) := ⟨rfl, rfl, rfl, by decide +kernel, rfl, by decide +kernel, by decide +kernel⟩
theorem sc_run_back : FnScope ["code", "boxes", "place", "most", "ride", "steps", "word"] ["code", "boxes", "place", "most"] (defScope s_run_back) := ⟨rfl, rfl, rfl, by decide +kernel, rfl, by decide +kernel, by decide +kernel⟩
theorem sc_word_of : FnScope ["there", "there_word", "may_go_on"] ["there", "there_word", "may_go_on"] (defScope s_word_of) := ⟨rfl, rfl, rfl, by decide +kernel, rfl, by decide +kernel, by decide +kernel⟩
theorem sc_law_draw : FnScope ["_law_state", "_law_many", "_law_script", "_law_k", "_law_rest", "_law_cell", "_law_number_here", "_law_digit"] ["_law_state", "_law_many"] (defScope s_law_draw) := ⟨rfl, rfl, rfl, by decide +kernel, rfl, by decide +kernel, by decide +kernel⟩
theorem sc_law_number : FnScope ["_law_state", "_law_sort"] ["_law_state"] (defScope s_law_number) := ⟨rfl, rfl, rfl, by decide +kernel, rfl, by decide +kernel, by decide +kernel⟩
theorem sc_law_other : FnScope ["_law_state", "_law_size", "_law_x", "_law_y"] ["_law_state", "_law_size", "_law_x"] (defScope s_law_other) := ⟨rfl, rfl, rfl, by decide +kernel, rfl, by decide +kernel, by decide +kernel⟩
theorem sc_law_plain_row : FnScope ["_law_state", "_law_size", "_law_x", "_law_sort", "_law_found", "_law_turn", "_law_operand"] ["_law_state", "_law_size"] (defScope s_law_plain_row) := ⟨rfl, rfl, rfl, by decide +kernel, rfl, by decide +kernel, by decide +kernel⟩
theorem sc_law_bit : FnScope ["_law_state"] ["_law_state"] (defScope s_law_bit) := ⟨rfl, rfl, rfl, by decide +kernel, rfl, by decide +kernel, by decide +kernel⟩
theorem sc_law_code : FnScope ["_law_state", "_law_size", "_law_many", "_law_jumps", "_law_rows", "_law_at", "_law_free", "_law_k", "_law_x", "_law_n", "_law_turn"] ["_law_state", "_law_size", "_law_many", "_law_jumps"] (defScope s_law_code) := ⟨rfl, rfl, rfl, by decide +kernel, rfl, by decide +kernel, by decide +kernel⟩
theorem sc_law_boxes : FnScope ["_law_state", "_law_size"] ["_law_state", "_law_size"] (defScope s_law_boxes) := ⟨rfl, rfl, rfl, by decide +kernel, rfl, by decide +kernel, by decide +kernel⟩
theorem sc_law_value : FnScope ["_law_boxes_here", "_law_operand"] ["_law_boxes_here", "_law_operand"] (defScope s_law_value) := ⟨rfl, rfl, rfl, by decide +kernel, rfl, by decide +kernel, by decide +kernel⟩
theorem sc_law_done : FnScope ["_law_row", "_law_boxes_here", "_law_sign", "_law_found", "_law_x", "_law_bit_here", "_law_more"] ["_law_row", "_law_boxes_here", "_law_sign"] (defScope s_law_done) := ⟨rfl, rfl, rfl, by decide +kernel, rfl, by decide +kernel, by decide +kernel⟩
theorem sc_law_forth : FnScope ["_law_rows", "_law_at", "_law_boxes_here", "_law_row"] ["_law_rows", "_law_at", "_law_boxes_here"] (defScope s_law_forth) := ⟨rfl, rfl, rfl, by decide +kernel, rfl, by decide +kernel, by decide +kernel⟩
theorem sc_law_back : FnScope ["_law_rows", "_law_at", "_law_boxes_here", "_law_row"] ["_law_rows", "_law_at", "_law_boxes_here"] (defScope s_law_back) := ⟨rfl, rfl, rfl, by decide +kernel, rfl, by decide +kernel, by decide +kernel⟩
theorem sc_law_run : FnScope ["_law_rows", "_law_forth_here", "_law_at", "_law_boxes_here", "_law_most", "_law_going", "_law_gone", "_law_due", "_law_word"] ["_law_rows", "_law_forth_here", "_law_at", "_law_boxes_here", "_law_most"] (defScope s_law_run) := ⟨rfl, rfl, rfl, by decide +kernel, rfl, by decide +kernel, by decide +kernel⟩
theorem sc_law_same : FnScope ["_law_found", "_law_due"] ["_law_found", "_law_due"] (defScope s_law_same) := ⟨rfl, rfl, rfl, by decide +kernel, rfl, by decide +kernel, by decide +kernel⟩
theorem sc_law_long : FnScope ["_law_many", "_law_rows", "_law_code_here", "_law_most", "_law_found"] ["_law_many"] (defScope s_law_long) := ⟨rfl, rfl, rfl, by decide +kernel, rfl, by decide +kernel, by decide +kernel⟩
theorem sc_law : FnScope ["_law_script", "_law_state", "_law_size", "_law_many", "_law_code_here", "_law_boxes_here", "_law_place", "_law_forth_here", "_law_back_here", "_law_some", "_law_most", "_law_handed", "_law_there"] ["_law_script"] (defScope s_law) := ⟨rfl, rfl, rfl, by decide +kernel, rfl, by decide +kernel, by decide +kernel⟩
set_option genInjectivity false in
set_option genSizeOf false in
structure C_Ride (K : PySem.W.Frag) (mg : Str → Option Value) where
  C : Addr
  cl : Cls K C
  m : mg "Ride" = some (.ref C)
  n_rows : NoAttr K C "rows"
  n_held : NoAttr K C "held"
  n_spot : NoAttr K C "spot"
set_option genInjectivity false in
set_option genSizeOf false in
structure Txt (K : PySem.W.Frag) (mg : Str → Option Value) where
  f_Ride_init : FnAt K "__init__" "Ride.__init__" s_Ride_init ["self", "code", "boxes", "place"]
  f_Ride_place : FnAt K "place" "Ride.place" s_Ride_place ["self"]
  f_Ride_boxes : FnAt K "boxes" "Ride.boxes" s_Ride_boxes ["self"]
  f_Ride_forth : FnAt K "forth" "Ride.forth" s_Ride_forth ["self"]
  f_Ride_back : FnAt K "back" "Ride.back" s_Ride_back ["self"]
  f_Ride_at_end : FnAt K "at_end" "Ride.at_end" s_Ride_at_end ["self"]
  f_Ride_at_begin : FnAt K "at_begin" "Ride.at_begin" s_Ride_at_begin ["self"]
  f_Ride_may_forth : FnAt K "may_forth" "Ride.may_forth" s_Ride_may_forth ["self"]
  f_Ride_may_back : FnAt K "may_back" "Ride.may_back" s_Ride_may_back ["self"]
  f_holds : FnAt K "holds" "holds" s_holds ["row", "held"]
  g_holds : mg "holds" = some (.ref f_holds.a)
  f_change : FnAt K "change" "change" s_change ["row", "held", "way"]
  g_change : mg "change" = some (.ref f_change.a)
  f_operand_value : FnAt K "operand_value" "operand_value" s_operand_value ["operand", "held"]
  g_operand_value : mg "operand_value" = some (.ref f_operand_value.a)
  f_turn_bit : FnAt K "turn_bit" "turn_bit" s_turn_bit ["row", "held"]
  g_turn_bit : mg "turn_bit" = some (.ref f_turn_bit.a)
  f_run_forth : FnAt K "run_forth" "run_forth" s_run_forth ["code", "boxes", "most"]
  g_run_forth : mg "run_forth" = some (.ref f_run_forth.a)
  f_run_back : FnAt K "run_back" "run_back" s_run_back ["code", "boxes", "place", "most"]
  g_run_back : mg "run_back" = some (.ref f_run_back.a)
  f_word_of : FnAt K "word_of" "word_of" s_word_of ["there", "there_word", "may_go_on"]
  g_word_of : mg "word_of" = some (.ref f_word_of.a)
  f_law_draw : FnAt K "_law_draw" "_law_draw" s_law_draw ["_law_state", "_law_many"]
  g_law_draw : mg "_law_draw" = some (.ref f_law_draw.a)
  f_law_number : FnAt K "_law_number" "_law_number" s_law_number ["_law_state"]
  g_law_number : mg "_law_number" = some (.ref f_law_number.a)
  f_law_other : FnAt K "_law_other" "_law_other" s_law_other ["_law_state", "_law_size", "_law_x"]
  g_law_other : mg "_law_other" = some (.ref f_law_other.a)
  f_law_plain_row : FnAt K "_law_plain_row" "_law_plain_row" s_law_plain_row ["_law_state", "_law_size"]
  g_law_plain_row : mg "_law_plain_row" = some (.ref f_law_plain_row.a)
  f_law_bit : FnAt K "_law_bit" "_law_bit" s_law_bit ["_law_state"]
  g_law_bit : mg "_law_bit" = some (.ref f_law_bit.a)
  f_law_code : FnAt K "_law_code" "_law_code" s_law_code ["_law_state", "_law_size", "_law_many", "_law_jumps"]
  g_law_code : mg "_law_code" = some (.ref f_law_code.a)
  f_law_boxes : FnAt K "_law_boxes" "_law_boxes" s_law_boxes ["_law_state", "_law_size"]
  g_law_boxes : mg "_law_boxes" = some (.ref f_law_boxes.a)
  f_law_value : FnAt K "_law_value" "_law_value" s_law_value ["_law_boxes_here", "_law_operand"]
  g_law_value : mg "_law_value" = some (.ref f_law_value.a)
  f_law_done : FnAt K "_law_done" "_law_done" s_law_done ["_law_row", "_law_boxes_here", "_law_sign"]
  g_law_done : mg "_law_done" = some (.ref f_law_done.a)
  f_law_forth : FnAt K "_law_forth" "_law_forth" s_law_forth ["_law_rows", "_law_at", "_law_boxes_here"]
  g_law_forth : mg "_law_forth" = some (.ref f_law_forth.a)
  f_law_back : FnAt K "_law_back" "_law_back" s_law_back ["_law_rows", "_law_at", "_law_boxes_here"]
  g_law_back : mg "_law_back" = some (.ref f_law_back.a)
  f_law_run : FnAt K "_law_run" "_law_run" s_law_run ["_law_rows", "_law_forth_here", "_law_at", "_law_boxes_here", "_law_most"]
  g_law_run : mg "_law_run" = some (.ref f_law_run.a)
  f_law_same : FnAt K "_law_same" "_law_same" s_law_same ["_law_found", "_law_due"]
  g_law_same : mg "_law_same" = some (.ref f_law_same.a)
  f_law_long : FnAt K "_law_long" "_law_long" s_law_long ["_law_many"]
  g_law_long : mg "_law_long" = some (.ref f_law_long.a)
  f_law : FnAt K "law" "law" s_law ["_law_script"]
  g_law : mg "law" = some (.ref f_law.a)
  c_Ride : C_Ride K mg
  mk_Ride : Mk K c_Ride.C f_Ride_init.a
  d_Ride_init : ∃ t, Binds K f_Ride_init.fd ["self", "code", "boxes", "place"] [.int 0 t]
  m_Ride_place : Meth K c_Ride.C "place" f_Ride_place.a
  m_Ride_boxes : Meth K c_Ride.C "boxes" f_Ride_boxes.a
  m_Ride_forth : Meth K c_Ride.C "forth" f_Ride_forth.a
  m_Ride_back : Meth K c_Ride.C "back" f_Ride_back.a
  m_Ride_at_end : Meth K c_Ride.C "at_end" f_Ride_at_end.a
  m_Ride_at_begin : Meth K c_Ride.C "at_begin" f_Ride_at_begin.a
  m_Ride_may_forth : Meth K c_Ride.C "may_forth" f_Ride_may_forth.a
  m_Ride_may_back : Meth K c_Ride.C "may_back" f_Ride_may_back.a
  k_NUMBERS : ∃ t, mg "NUMBERS" = some (.int 4294967296 t)
  b_abs : mg "abs" = none
  b_all : mg "all" = none
  b_bool : mg "bool" = none
  b_divmod : mg "divmod" = none
  b_int : mg "int" = none
  b_isinstance : mg "isinstance" = none
  b_len : mg "len" = none
  b_list : mg "list" = none
  b_max : mg "max" = none
  b_range : mg "range" = none
  b_tuple : mg "tuple" = none
end Law
namespace Law
open PySem L2 L3 Rw
set_option maxHeartbeats 4000000
section
variable {P : Program} {w : World} {K : PySem.W.Frag} {mg : Str → Option Value} {base : Heap} (T : Txt K mg)
noncomputable def S_law_draw (_ : Txt K mg) : Sp3 := spec (fun ds G => ∃ (st : Addr) (m : Int), ds = [.ref st, .int m] ∧ StAt G st ∧ 0 < m ∧ m < 1073741824)
  (fun ds G d G' => ∃ (st : Addr) (m v : Int), ds = [.ref st, .int m] ∧ Adv st G G' ∧ d = .int v ∧ 0 ≤ v ∧ v < m)
noncomputable def S_holds (_ : Txt K mg) : Sp3 := fun ds G R => ∃ (row : Row) (a x : Nat) (bs : List Int) (n : Int) (k : Nat), ds = [row.d, .ref a] ∧ (row = .go x n k ∨ row = .come x n k) ∧ G a = some (.lst (bs.map .int)) ∧ x < bs.length ∧ R (.bl (decide (gt bs x = n))) G
noncomputable def S_operand_value (_ : Txt K mg) : Sp3 := fun ds G R => ∃ (o : Opd) (a : Nat) (bs : List Int), ds = [o.d, .ref a] ∧ G a = some (.lst (bs.map .int)) ∧ (∀ y, o = .box y → y < bs.length) ∧ R (.int (val bs o)) G
noncomputable def S_turn_bit (_ : Txt K mg) : Sp3 := fun ds G R => ∃ (x i : Nat) (cs : List (Nat × Nat)) (a sz : Nat) (bs : List Int), ds = [(Row.turn x i cs).d, .ref a] ∧ (Row.turn x i cs).ok sz ∧ BsOk sz bs ∧ G a = some (.lst (bs.map .int)) ∧ ∀ G', Upd1 a (stp 1 bs (.turn x i cs)) G G' → R .non G'
noncomputable def S_change (_ : Txt K mg) : Sp3 := fun ds G R => ∃ (row : Row) (a sz : Nat) (s : Int) (bs : List Int), ds = [row.d, .ref a, .int s] ∧ (s = 1 ∨ s = -1) ∧ row.ok sz ∧ BsOk sz bs ∧ G a = some (.lst (bs.map .int)) ∧ ∀ G', Upd1 a (stp s bs row) G G' → R .non G'
noncomputable def S_Ride_at_end : Sp3 := fun ds G R => ∃ (p ra ha : Addr) (rs : List Row) (bs : List Int) (s : Nat), ds = [.ref p] ∧ RideAt T.c_Ride.C G p ra ha rs bs s ∧ R (.bl (decide (s = rs.length))) G
noncomputable def S_Ride_at_begin : Sp3 := fun ds G R => ∃ (p ra ha : Addr) (rs : List Row) (bs : List Int) (s : Nat), ds = [.ref p] ∧ RideAt T.c_Ride.C G p ra ha rs bs s ∧ R (.bl (decide (s = 0))) G
noncomputable def S_Ride_place : Sp3 := fun ds G R => ∃ (p ra ha : Addr) (rs : List Row) (bs : List Int) (s : Nat), ds = [.ref p] ∧ RideAt T.c_Ride.C G p ra ha rs bs s ∧ R (.int (s : Int)) G
noncomputable def S_Ride_boxes : Sp3 := fun ds G R => ∃ (p ra ha : Addr) (rs : List Row) (bs : List Int) (s : Nat), ds = [.ref p] ∧ RideAt T.c_Ride.C G p ra ha rs bs s ∧ ∀ q, G q = none → R (.ref q) (gup G q (.lst (bs.map .int)))
noncomputable def S_Ride_may_forth : Sp3 := fun ds G R => ∃ (p ra ha : Addr) (rs : List Row) (bs : List Int) (s sz : Nat), ds = [.ref p] ∧ RideAt T.c_Ride.C G p ra ha rs bs s ∧ Cde sz rs bs s ∧ R (.bl (mayF rs bs s)) G
noncomputable def S_Ride_may_back : Sp3 := fun ds G R => ∃ (p ra ha : Addr) (rs : List Row) (bs : List Int) (s sz : Nat), ds = [.ref p] ∧ RideAt T.c_Ride.C G p ra ha rs bs s ∧ Cde sz rs bs s ∧ R (.bl (mayB rs bs s)) G
noncomputable def S_Ride_forth : Sp3 := fun ds G R => ∃ (p ra ha : Addr) (rs : List Row) (bs : List Int) (s sz : Nat), ds = [.ref p] ∧ RideAt T.c_Ride.C G p ra ha rs bs s ∧ Cde sz rs bs s ∧
  ∀ G', (mayF rs bs s = false → G' = G) → (mayF rs bs s = true → RideAt T.c_Ride.C G' p ra ha rs (nxF rs bs s).2 (nxF rs bs s).1 ∧ ∀ b, b ≠ p → b ≠ ha → G' b = G b) → R (.bl (mayF rs bs s)) G'
noncomputable def S_Ride_back : Sp3 := fun ds G R => ∃ (p ra ha : Addr) (rs : List Row) (bs : List Int) (s sz : Nat), ds = [.ref p] ∧ RideAt T.c_Ride.C G p ra ha rs bs s ∧ Cde sz rs bs s ∧
  ∀ G', (mayB rs bs s = false → G' = G) → (mayB rs bs s = true → RideAt T.c_Ride.C G' p ra ha rs (nxB rs bs s).2 (nxB rs bs s).1 ∧ ∀ b, b ≠ p → b ≠ ha → G' b = G b) → R (.bl (mayB rs bs s)) G'
/-- a new ride: the code's rows at cr, the boxes at bx -/
noncomputable def S_Ride_init : Sp3 := fun ds G R => ∃ (p : Addr) (c0 : D) (cr bx : Addr) (rs : List Row) (bs : List Int) (s : Nat), ds = [.ref p, .tup [c0, .ref cr], .ref bx, .int (s : Int)] ∧ G p = some (.ins T.c_Ride.C []) ∧ G cr = some (.lst (rs.map Row.d)) ∧ G bx = some (.lst (bs.map .int)) ∧
  ∀ ra ha G', G ra = none → G ha = none → RideAt T.c_Ride.C G' p ra ha rs bs s → (∀ b o, b ≠ p → G b = some o → G' b = some o) → R .non G'
theorem draw_call {K : PySem.W.Frag} {mg : Str → Option Value} {T : Txt K mg} {G : Gp} {st : Addr} {m : Int} {q : DK} (h : StAt G st) (h0 : 0 < m) (h1 : m < 1073741824) (k : ∀ (v : Int) (G' : Gp), Adv st G G' → 0 ≤ v → v < m → q (.int v) G') :
    ∃ R, S_law_draw T [.ref st, .int m] G R ∧ ∀ d G', R d G' → q d G' :=
  spec_call ⟨st, m, rfl, h, h0, h1⟩ fun d G' ⟨st', m', v, e, a, ed, v0, v1⟩ => by
    cases e; subst ed; exact k v G' a v0 v1
noncomputable def S_law_value (_ : Txt K mg) : Sp3 := fun ds G R => ∃ (o : Opd) (a : Nat) (bs : List Int), ds = [.ref a, o.d] ∧ G a = some (.lst (bs.map .int)) ∧ (∀ y, o = .box y → y < bs.length) ∧ R (.int (val bs o)) G
noncomputable def S_law_done (_ : Txt K mg) : Sp3 := fun ds G R => ∃ (row : Row) (a sz : Nat) (s : Int) (bs : List Int), ds = [row.d, .ref a, .int s] ∧ (s = 1 ∨ s = -1) ∧ row.ok sz ∧ row.plain = true ∧ BsOk sz bs ∧ G a = some (.lst (bs.map .int)) ∧
  ∀ q G', G q = none → G' q = some (.lst ((stp s bs row).map .int)) → Grow G G' → R (.ref q) G'
/-- where a step leads: its place and boxes, told as a tuple, or None -/
noncomputable def S_law_forth (_ : Txt K mg) : Sp3 := fun ds G R => ∃ (ra a : Addr) (rs : List Row) (bs : List Int) (s sz : Nat), ds = [.ref ra, .int (s : Int), .ref a] ∧ G ra = some (.lst (rs.map Row.d)) ∧ G a = some (.lst (bs.map .int)) ∧ Cde sz rs bs s ∧
  (mayF rs bs s = false → R .non G) ∧ (mayF rs bs s = true → ∀ q G', G' q = some (.lst ((nxF rs bs s).2.map .int)) → (q = a ∨ G q = none) → Grow G G' → R (.tup [.int ((nxF rs bs s).1 : Int), .ref q]) G')
noncomputable def S_law_back (_ : Txt K mg) : Sp3 := fun ds G R => ∃ (ra a : Addr) (rs : List Row) (bs : List Int) (s sz : Nat), ds = [.ref ra, .int (s : Int), .ref a] ∧ G ra = some (.lst (rs.map Row.d)) ∧ G a = some (.lst (bs.map .int)) ∧ Cde sz rs bs s ∧
  (mayB rs bs s = false → R .non G) ∧ (mayB rs bs s = true → ∀ q G', G' q = some (.lst ((nxB rs bs s).2.map .int)) → (q = a ∨ G q = none) → Grow G G' → R (.tup [.int ((nxB rs bs s).1 : Int), .ref q]) G')
theorem c_forth {G : Gp} {ra a : Addr} {rs : List Row} {bs : List Int} {s sz : Nat} {q : DK} (h1 : G ra = some (.lst (rs.map Row.d))) (h2 : G a = some (.lst (bs.map .int))) (c : Cde sz rs bs s) (hm : mayF rs bs s = true)
    (k : ∀ q' G', G' q' = some (.lst ((nxF rs bs s).2.map .int)) → (q' = a ∨ G q' = none) → Grow G G' → q (.tup [.int ((nxF rs bs s).1 : Int), .ref q']) G') : ∃ R1, S_law_forth T [.ref ra, .int (s : Int), .ref a] G R1 ∧ ∀ d G', R1 d G' → q d G' :=
  call_nd (post := fun d G' => ∃ q', d = .tup [.int ((nxF rs bs s).1 : Int), .ref q'] ∧ G' q' = some (.lst ((nxF rs bs s).2.map .int)) ∧ (q' = a ∨ G q' = none) ∧ Grow G G')
    (fun R h => ⟨ra, a, rs, bs, s, sz, rfl, h1, h2, c, (fun e => by rw [hm] at e; cases e), fun _ q' G' x y z => h _ _ ⟨q', rfl, x, y, z⟩⟩) fun d G' ⟨q', e, x, y, z⟩ => by subst e; exact k q' G' x y z
theorem c_back {G : Gp} {ra a : Addr} {rs : List Row} {bs : List Int} {s sz : Nat} {q : DK} (h1 : G ra = some (.lst (rs.map Row.d))) (h2 : G a = some (.lst (bs.map .int))) (c : Cde sz rs bs s) (hm : mayB rs bs s = true)
    (k : ∀ q' G', G' q' = some (.lst ((nxB rs bs s).2.map .int)) → (q' = a ∨ G q' = none) → Grow G G' → q (.tup [.int ((nxB rs bs s).1 : Int), .ref q']) G') : ∃ R1, S_law_back T [.ref ra, .int (s : Int), .ref a] G R1 ∧ ∀ d G', R1 d G' → q d G' :=
  call_nd (post := fun d G' => ∃ q', d = .tup [.int ((nxB rs bs s).1 : Int), .ref q'] ∧ G' q' = some (.lst ((nxB rs bs s).2.map .int)) ∧ (q' = a ∨ G q' = none) ∧ Grow G G')
    (fun R h => ⟨ra, a, rs, bs, s, sz, rfl, h1, h2, c, (fun e => by rw [hm] at e; cases e), fun _ q' G' x y z => h _ _ ⟨q', rfl, x, y, z⟩⟩) fun d G' ⟨q', e, x, y, z⟩ => by subst e; exact k q' G' x y z
theorem c_make {G : Gp} {p cr bx : Addr} {rs : List Row} {bs : List Int} {s : Nat} {c0 : D} {q : Gp → Prop} (hp : G p = none) (hcr : G cr = some (.lst (rs.map Row.d))) (hbx : G bx = some (.lst (bs.map .int)))
    (k : ∀ ra ha G', G ra = none → G ha = none → RideAt T.c_Ride.C G' p ra ha rs bs s → Grow G G' → q G') : ∃ R, S_Ride_init T [.ref p, .tup [c0, .ref cr], .ref bx, .int (s : Int)] (gup G p (.ins T.c_Ride.C [])) R ∧ ∀ d G', R d G' → d = .non ∧ q G' := by
  have g9 : Grow G (gup G p (.ins T.c_Ride.C [])) := Grow.refl.new hp
  exact call_nd (post := fun d G' => d = .non ∧ ∃ ra ha, G ra = none ∧ G ha = none ∧ RideAt T.c_Ride.C G' p ra ha rs bs s ∧ Grow G G')
      (fun R h => ⟨p, c0, cr, bx, rs, bs, s, rfl, gup_same, g9.kp _ _ hcr, g9.kp _ _ hbx, fun ra ha G' x1 x2 x3 x4 => h _ _ ⟨rfl, ra, ha, g9.none x1, g9.none x2, x3, ⟨fun b o e => x4 b o (gne e hp) (g9.kp _ _ e)⟩⟩⟩) fun d G' ⟨e, ra, ha, x1, x2, x3, x4⟩ => ⟨e, k ra ha G' x1 x2 x3 x4⟩
theorem c_forth2 {G : Gp} {ra a : Addr} {rs : List Row} {bs : List Int} {s sz : Nat} {q : DK} (h1 : G ra = some (.lst (rs.map Row.d))) (h2 : G a = some (.lst (bs.map .int))) (c : Cde sz rs bs s) (k0 : mayF rs bs s = false → q .non G)
    (k : mayF rs bs s = true → ∀ q' G', G' q' = some (.lst ((nxF rs bs s).2.map .int)) → (q' = a ∨ G q' = none) → Grow G G' → q (.tup [.int ((nxF rs bs s).1 : Int), .ref q']) G') : ∃ R1, S_law_forth T [.ref ra, .int (s : Int), .ref a] G R1 ∧ ∀ d G', R1 d G' → q d G' := by
  cases hm : mayF rs bs s with
  | true => exact c_forth T h1 h2 c hm (k hm)
  | false => exact call_det (v := .non) (G1 := G) (fun R h => ⟨ra, a, rs, bs, s, sz, rfl, h1, h2, c, fun _ => h, fun e => by rw [hm] at e; cases e⟩) (k0 hm)
theorem c_back2 {G : Gp} {ra a : Addr} {rs : List Row} {bs : List Int} {s sz : Nat} {q : DK} (h1 : G ra = some (.lst (rs.map Row.d))) (h2 : G a = some (.lst (bs.map .int))) (c : Cde sz rs bs s) (k0 : mayB rs bs s = false → q .non G)
    (k : mayB rs bs s = true → ∀ q' G', G' q' = some (.lst ((nxB rs bs s).2.map .int)) → (q' = a ∨ G q' = none) → Grow G G' → q (.tup [.int ((nxB rs bs s).1 : Int), .ref q']) G') : ∃ R1, S_law_back T [.ref ra, .int (s : Int), .ref a] G R1 ∧ ∀ d G', R1 d G' → q d G' := by
  cases hm : mayB rs bs s with
  | true => exact c_back T h1 h2 c hm (k hm)
  | false => exact call_det (v := .non) (G1 := G) (fun R h => ⟨ra, a, rs, bs, s, sz, rfl, h1, h2, c, fun _ => h, fun e => by rw [hm] at e; cases e⟩) (k0 hm)
noncomputable def S_law_number (_ : Txt K mg) : Sp3 := fun ds G R => ∃ (st : Addr), ds = [.ref st] ∧ StAt G st ∧ ∀ (v : Int) G', Adv st G G' → 0 ≤ v → v < 4294967296 → R (.int v) G'
noncomputable def S_law_other (_ : Txt K mg) : Sp3 := fun ds G R => ∃ (st : Addr) (sz x : Nat), ds = [.ref st, .int (sz : Int), .int (x : Int)] ∧ StAt G st ∧ 2 ≤ sz ∧ sz ≤ 1000 ∧ x < sz ∧ ∀ (y : Nat) G', Adv st G G' → y < sz → y ≠ x → R (.int (y : Int)) G'
noncomputable def S_law_bit (_ : Txt K mg) : Sp3 := fun ds G R => ∃ (st : Addr), ds = [.ref st] ∧ StAt G st ∧ ∀ (j : Nat) G', Adv st G G' → j < 32 → R (.int (j : Int)) G'
noncomputable def S_law_plain_row (_ : Txt K mg) : Sp3 := fun ds G R => ∃ (st : Addr) (sz : Nat), ds = [.ref st, .int (sz : Int)] ∧ StAt G st ∧ 1 ≤ sz ∧ sz ≤ 1000 ∧ ∀ (row : Row) G', Adv st G G' → row.ok sz → row.plain = true → R row.d G'
noncomputable def S_law_boxes (_ : Txt K mg) : Sp3 := fun ds G R => ∃ (st : Addr) (sz : Nat), ds = [.ref st, .int (sz : Int)] ∧ StAt G st ∧ sz ≤ 1000 ∧ ∀ (q : Addr) (bs : List Int) G', Adv st G G' → G q = none → G' q = some (.lst (bs.map .int)) → BsOk sz bs → R (.ref q) G'
/-- codes, perhaps with goes and comes -/
noncomputable def S_law_code (_ : Txt K mg) : Sp3 := fun ds G R => ∃ (st : Addr) (sz m : Nat) (jm : Int), ds = [.ref st, .int (sz : Int), .int (m : Int), .int jm] ∧ StAt G st ∧ 1 ≤ sz ∧ sz ≤ 1000 ∧ m ≤ 1000 ∧
  ∀ (ra : Addr) (rs : List Row) G', Adv st G G' → G ra = none → G' ra = some (.lst (rs.map Row.d)) → rs.length = m → (∀ r ∈ rs, r.ok sz) → Pairs rs → R (.tup [.int (sz : Int), .ref ra]) G'
noncomputable def S_word_of (_ : Txt K mg) : Sp3 := fun ds G R => ∃ (a c : Bool) (w : Str), ds = [.bl a, .str w, .bl c] ∧ R (.str (if a = true then w else if c = true then "tired" else "torn")) G
noncomputable def S_run_forth (_ : Txt K mg) : Sp3 := fun ds G R => ∃ (c0 : D) (rc bx : Addr) (rs : List Row) (bs : List Int) (most sz : Nat), ds = [.tup [c0, .ref rc], .ref bx, .int (most : Int)] ∧ G rc = some (.lst (rs.map Row.d)) ∧ G bx = some (.lst (bs.map .int)) ∧ Cde sz rs bs 0 ∧ Pairs rs ∧
  ∀ q G', G q = none → G' q = some (.lst ((rn true rs most 0 bs).2.2.map .int)) → Grow G G' → R (outD true rs (rn true rs most 0 bs) q) G'
noncomputable def S_run_back (_ : Txt K mg) : Sp3 := fun ds G R => ∃ (c0 : D) (rc bx : Addr) (rs : List Row) (bs : List Int) (s most sz : Nat), ds = [.tup [c0, .ref rc], .ref bx, .int (s : Int), .int (most : Int)] ∧ G rc = some (.lst (rs.map Row.d)) ∧ G bx = some (.lst (bs.map .int)) ∧ Cde sz rs bs s ∧ Pairs rs ∧
  ∀ q G', G q = none → G' q = some (.lst ((rn false rs most s bs).2.2.map .int)) → Grow G G' → R (outD false rs (rn false rs most s bs) q) G'
noncomputable def S_law_run (_ : Txt K mg) : Sp3 := fun ds G R => ∃ (fw : Bool) (rc bx : Addr) (rs : List Row) (bs : List Int) (s most sz : Nat), ds = [.ref rc, .bl fw, .int (s : Int), .ref bx, .int (most : Int)] ∧ G rc = some (.lst (rs.map Row.d)) ∧ G bx = some (.lst (bs.map .int)) ∧ Cde sz rs bs s ∧ Pairs rs ∧
  ∀ q G', (q = bx ∨ G q = none) → G' q = some (.lst ((rn fw rs most s bs).2.2.map .int)) → Grow G G' → R (outD fw rs (rn fw rs most s bs) q) G'
noncomputable def S_law_same (_ : Txt K mg) : Sp3 := fun ds G R => ∃ (w : Str) (i j : Int) (a b : Addr) (ks : List Int), ds = [.tup [.str w, .int i, .ref a, .int j], .tup [.str w, .int i, .ref b, .int j]] ∧ G a = some (.lst (ks.map .int)) ∧ G b = some (.lst (ks.map .int)) ∧ ks.length ≤ 1000 ∧ ∀ G', Grow G G' → R (.bl true) G'
noncomputable def S_law_long (_ : Txt K mg) : Sp3 := fun ds G R => ∃ (m : Nat), ds = [.int (m : Int)] ∧ 3 ≤ m ∧ m ≤ 2000 ∧ ∀ G', Grow G G' → R (.bl true) G'
noncomputable def S_law (_ : Txt K mg) : Sp3 := fun ds G R => ∃ (a : Addr) (ns : List Int), ds = [.ref a] ∧ G a = some (.fro (ns.map .int)) ∧ ns.length ≤ 63 ∧ ∀ G', R (.bl true) G'
theorem c_runF {G : Gp} {rc bx : Addr} {rs : List Row} {bs : List Int} {most sz : Nat} {c0 : D} {q : DK} (h1 : G rc = some (.lst (rs.map Row.d))) (h2 : G bx = some (.lst (bs.map .int))) (c : Cde sz rs bs 0) (hp : Pairs rs)
    (k : ∀ q' G', G q' = none → G' q' = some (.lst ((rn true rs most 0 bs).2.2.map .int)) → Grow G G' → q (outD true rs (rn true rs most 0 bs) q') G') : ∃ R1, S_run_forth T [.tup [c0, .ref rc], .ref bx, .int (most : Int)] G R1 ∧ ∀ d G', R1 d G' → q d G' :=
  call_nd (post := fun d G' => ∃ q', d = outD true rs (rn true rs most 0 bs) q' ∧ G q' = none ∧ G' q' = some (.lst ((rn true rs most 0 bs).2.2.map .int)) ∧ Grow G G') (fun R h => ⟨c0, rc, bx, rs, bs, most, sz, rfl, h1, h2, c, hp, fun q' G' x y z => h _ _ ⟨q', rfl, x, y, z⟩⟩) fun d G' ⟨q', e, x, y, z⟩ => by subst e; exact k q' G' x y z
theorem c_runB {G : Gp} {rc bx : Addr} {rs : List Row} {bs : List Int} {s most sz : Nat} {c0 : D} {q : DK} (h1 : G rc = some (.lst (rs.map Row.d))) (h2 : G bx = some (.lst (bs.map .int))) (c : Cde sz rs bs s) (hp : Pairs rs)
    (k : ∀ q' G', G q' = none → G' q' = some (.lst ((rn false rs most s bs).2.2.map .int)) → Grow G G' → q (outD false rs (rn false rs most s bs) q') G') : ∃ R1, S_run_back T [.tup [c0, .ref rc], .ref bx, .int (s : Int), .int (most : Int)] G R1 ∧ ∀ d G', R1 d G' → q d G' :=
  call_nd (post := fun d G' => ∃ q', d = outD false rs (rn false rs most s bs) q' ∧ G q' = none ∧ G' q' = some (.lst ((rn false rs most s bs).2.2.map .int)) ∧ Grow G G') (fun R h => ⟨c0, rc, bx, rs, bs, s, most, sz, rfl, h1, h2, c, hp, fun q' G' x y z => h _ _ ⟨q', rfl, x, y, z⟩⟩) fun d G' ⟨q', e, x, y, z⟩ => by subst e; exact k q' G' x y z
theorem c_lrun {G : Gp} {fw : Bool} {rc bx : Addr} {rs : List Row} {bs : List Int} {s most sz : Nat} {q : DK} (h1 : G rc = some (.lst (rs.map Row.d))) (h2 : G bx = some (.lst (bs.map .int))) (c : Cde sz rs bs s) (hp : Pairs rs)
    (k : ∀ q' G', (q' = bx ∨ G q' = none) → G' q' = some (.lst ((rn fw rs most s bs).2.2.map .int)) → Grow G G' → q (outD fw rs (rn fw rs most s bs) q') G') : ∃ R1, S_law_run T [.ref rc, .bl fw, .int (s : Int), .ref bx, .int (most : Int)] G R1 ∧ ∀ d G', R1 d G' → q d G' :=
  call_nd (post := fun d G' => ∃ q', d = outD fw rs (rn fw rs most s bs) q' ∧ (q' = bx ∨ G q' = none) ∧ G' q' = some (.lst ((rn fw rs most s bs).2.2.map .int)) ∧ Grow G G') (fun R h => ⟨fw, rc, bx, rs, bs, s, most, sz, rfl, h1, h2, c, hp, fun q' G' x y z => h _ _ ⟨q', rfl, x, y, z⟩⟩) fun d G' ⟨q', e, x, y, z⟩ => by subst e; exact k q' G' x y z
theorem c_same {G : Gp} {a b : Addr} {fw : Bool} {rs : List Row} {r : Nat × Nat × List Int} {q : DK} (h1 : G a = some (.lst (r.2.2.map .int))) (h2 : G b = some (.lst (r.2.2.map .int))) (hl : r.2.2.length ≤ 1000) (k : ∀ G', Grow G G' → q (.bl true) G') :
    ∃ R1, S_law_same T [outD fw rs r a, outD fw rs r b] G R1 ∧ ∀ d G', R1 d G' → q d G' :=
  call_nd (post := fun d G' => d = .bl true ∧ Grow G G') (fun R h => ⟨_, _, _, a, b, r.2.2, rfl, h1, h2, hl, fun G' g => h _ _ ⟨rfl, g⟩⟩) fun d G' ⟨e, g⟩ => by subst e; exact k G' g
end
end Law

set_option compiler.extract_closed false
open PySem L2 L3 Rw in
set_option hygiene false in
local macro_rules | `(tactic| dsimp! only [$xs,*]) => `(tactic| try simp only [dComp, Int.toNat_natCast, dCall, dMeth, dMake, List.append_nil, dSeq, dNext, dAsg, dDrop, dRet, dRetN, dIfS, dB, dAnd, dOr, dNot, dAndV, dOrV, dNotV, dIf, dVar, dC, dOp, dUn, dNil, dCons, dTup, dLst, dCB, dSl, dPart, dNoPart, dBM, dBM0, dAug, dFld, dSetF, dAugF, dYes, jName, jSub, jSeq, jCons, jNil, wRng1, wRng2, wAny, dFor, xSub, xDiv, xMod, xPow, xShl, xShr, xAnd, xOr, xXor, kindD, tyD, startD, innerD, List.map_cons, List.map_nil, List.cons_append, List.nil_append, List.length_cons, List.length_nil, List.replicate, List.getElem?_cons_zero, List.getElem?_cons_succ, List.set_cons_zero, List.set_cons_succ, Nat.reduceAdd, Nat.reduceSub, Nat.sub_self, seqOf_lst, seqOf_fro, gup_same, Option.bind_some, Option.bind_none, id, Bool.false_eq_true, if_true, if_false, reduceIte, true_and, and_true, decide_true, decide_false, Bool.not_true, Bool.not_false, atI_0, atI_1, atI_2, atI_3, atI_4, ixN_30, ixN_31, ixN_32, ixN_20, ixN_21, xr_all, xs_all, dBack, $xs,*])
namespace Law
open PySem L2 L3 Rw
set_option maxHeartbeats 4000000
section
variable {P : Program} {w : World} {K : PySem.W.Frag} {mg : Str → Option Value} {base : Heap} (T : Txt K mg)
theorem ok_law_draw {n : Nat} : Ok P w mg base (n + 1) T.f_law_draw (S_law_draw T) := by
  refine def_ok T.f_law_draw sc_law_draw (fun ds G R h => ?_) (fun cdv A outer s H E hr =>
      (ss_cons (s_asg (ev 0) (j_seq (n := 3) rfl (js_cons (j_name 2 sc_law_draw.nd) (js_cons (j_name 3 sc_law_draw.nd) (js_cons (j_name 4 sc_law_draw.nd) js_nil)))))
      (ss_cons (s_if (t_cmp (x_eq hr) (ev 4) e_int (nomark _)) (ss_cons (s_asg (e_bin x_add (ev 3) e_int) (j_sub (ev 0) e_int x_set))
      (ss_cons (s_set 5 sc_law_draw.nd (e_bin x_add (e_bin x_mul e_int (ev 3)) e_int))
      (ss_cons (s_if (t_cmp (x_gt) (e_callB x_len rfl T.b_len (by decide +kernel) (a_cons (ev 2) a_nil)) e_int (nomark _)) (ss_one (s_set 5 sc_law_draw.nd (e_ix x_ix (ev 2) (e_bin x_mod (ev 3) (e_callB x_len rfl T.b_len (by decide +kernel) (a_cons (ev 2) a_nil)))))) ss_nil)
      (ss_cons (s_set 4 sc_law_draw.nd (e_callB x_abs rfl T.b_abs (by decide +kernel) (a_cons (ev 5) a_nil)))
      (ss_one (s_if (t_w (w_or (t_cmp (x_ge) (ev 3) (e_callB x_len rfl T.b_len (by decide +kernel) (a_cons (ev 2) a_nil)) (nomark _)) (w_or1 (t_cmp (x_lt) (ev 4) (e_bin x_pow e_int e_int) (nomark _))))) (ss_cons (s_set 6 sc_law_draw.nd (e_bin x_mod (e_bin x_add (e_bin x_add (e_bin x_mul (e_bin x_mod (ev 5) e_int) (e_bin x_add e_int (ev 3))) (e_bin x_mul e_int (ev 3))) e_int) e_int))
      (ss_cons (s_set 6 sc_law_draw.nd (e_bin x_mod (e_bin x_mul (ev 6) (ev 6)) e_int))
      (ss_one (s_ret (e_bin x_mod (e_bin x_mod (e_bin x_mul (ev 6) (ev 6)) e_int) (ev 1)))))) ss_nil)))))) ss_nil)
      (ss_cons (s_asg (e_callB x_divmod rfl T.b_divmod (by decide +kernel) (a_cons (ev 4) (a_cons (ev 1) a_nil))) (j_seq (n := 2) rfl (js_cons (j_sub (ev 0) e_int x_set) (js_cons (j_name 7 sc_law_draw.nd) js_nil))))
      (ss_one (s_ret (ev 7))))))) (fun ds G R h => ?_)
  · obtain ⟨⟨st, m, rfl, _⟩, _⟩ := h; rfl
  · obtain ⟨⟨st, m, rfl, ⟨a, ns, k, r, hst, ha, hk, hr0, hne, hlen⟩, hm0, hm1⟩, post⟩ := h
    have fin : ∀ (v k' r' : Int), 0 ≤ v → v < m → 0 ≤ k' → 0 ≤ r' → R (.int v) (gup G st (.lst [.ref a, .int k', .int r'])) := fun v k' r' h1 h2 h3 h4 => post _ _ ⟨st, m, v, rfl,
      ⟨⟨a, ns, k', r', gup_same, by rw [gup_ne hne]; exact ha, h3, h4, hne, hlen⟩, fun b o hb e => by rw [gup_ne hb]; exact e⟩, rfl, h1, h2⟩
    have tail : ∀ (y k' r' : Int), 0 ≤ k' → 0 ≤ r' → R (.int (y % m)) (gup G st (.lst [.ref a, .int k', .int r'])) := fun y k' r' h1 h2 => fin _ _ _ (Int.emod_nonneg _ (by omega)) (Int.emod_lt_of_pos _ hm0) h1 h2
    have cd : ∀ c : Int, CDiv c m := fun c => ⟨hm0, hm1⟩
    have cm : ∀ c y : Int, CMul (c % 2147483629) y := fun c y => cmul_l (by omega) (by omega)
    have cm2 : ∀ c y : Int, CMul (c % 2147483587) y := fun c y => cmul_l (by omega) (by omega)
    have c7 : ∀ y : Int, CMul 7 y := fun y => cmul_l (by decide) (by decide)
    have c79 : ∀ y : Int, CMul 7919 y := fun y => cmul_l (by decide) (by decide)
    have cp : CPow 10 18 := ⟨by decide, by decide, by decide⟩
    have p1 : ((0 : Int) < 2147483629) = True := by decide
    have p2 : ((0 : Int) < 2147483587) = True := by decide
    have p3 : ((0 : Int) < 1999999973) = True := by decide
    have p4 : ((0 : Int) < m) = True := eq_true hm0
    by_cases hn : ns = []
    · subst hn
      (dsimp! only [hst, ha, gup_ne hne, gup_gup, cd, cm, cm2, c7, c79, cp, p1, p2, p3, p4]; repeat (simp only [Go]; dsimp! only [hst, ha, gup_ne hne, gup_gup, cd, cm, cm2, c7, c79, cp, p1, p2, p3, p4]))
      refine ite_d (fun h0 => ?_) (fun h0 => ?_)
      · simp only [Int.lt_irrefl, Int.natCast_zero, decide_false, Bool.false_eq_true, if_false]
        refine ite_d (fun h1 => ?_) (fun h1 => ?_)
        · exact tail _ _ _ (by omega) hr0
        · exact absurd hk h1
      · exact tail _ _ _ hk (Int.ediv_nonneg hr0 (by omega))
    · have hpos : 0 < ns.length := List.length_pos_iff.mpr hn
      have hl : ((ns.map D.int).length : Int) = (ns.length : Int) := by simp
      obtain ⟨c, hc⟩ : ∃ c, atI (ns.map D.int) (k % (ns.length : Int)) = some (.int c) := ⟨_, atI_map (Int.emod_nonneg _ (by omega)) (Int.emod_lt_of_pos _ (by omega))⟩
      have p5 : ((0 : Int) < (ns.length : Int)) = True := eq_true (by omega)
      (dsimp! only [hst, ha, gup_ne hne, gup_gup, cd, cm, cm2, c7, c79, cp, p1, p2, p3, p4, hl, hc, p5]; repeat (simp only [Go]; dsimp! only [hst, ha, gup_ne hne, gup_gup, cd, cm, cm2, c7, c79, cp, p1, p2, p3, p4, hl, hc, p5]))
      refine ite_d (fun h0 => ?_) (fun h0 => ?_)
      · refine ite_d (fun h1 => ?_) (fun h1 => ?_)
        · exact tail _ _ _ (by omega) hr0
        · refine ite_d (fun h2 => ?_) (fun h2 => ?_)
          · exact tail _ _ _ (by omega) hr0
          · refine tail _ _ _ (by omega) (Int.ediv_nonneg ?_ (by omega))
            split <;> omega
      · exact tail _ _ _ hk (Int.ediv_nonneg hr0 (by omega))
theorem ok_holds {n : Nat} : Ok P w mg base (n + 1) T.f_holds (S_holds T) := by
  refine def_ok T.f_holds sc_holds (fun ds G R h => ?_) (fun cdv A outer s H E hr =>
      (ss_one (s_ret (e_cmp (x_eq hr) (e_ix x_ix (ev 1) (e_ix x_ix (ev 0) e_int)) (e_ix x_ix (ev 0) e_int) (nomark _))))) (fun ds G R h => ?_)
  · obtain ⟨row, a, x, bs, n, k, rfl, _⟩ := h; rfl
  · obtain ⟨row, a, x, bs, m, k, rfl, hrow, ha, hx, post⟩ := h
    rcases hrow with rfl | rfl
    · (dsimp! only [Row.d, ha, at_map hx]; repeat (simp only [Go]; dsimp! only [Row.d, ha, at_map hx]))
      exact post
    · (dsimp! only [Row.d, ha, at_map hx]; repeat (simp only [Go]; dsimp! only [Row.d, ha, at_map hx]))
      exact post
theorem ok_operand_value {n : Nat} : Ok P w mg base (n + 1) T.f_operand_value (S_operand_value T) := by
  refine def_ok T.f_operand_value sc_operand_value (fun ds G R h => ?_) (fun cdv A outer s H E hr =>
      (ss_one (s_ret (e_if (t_cmp (x_eq hr) (e_ix x_ix (ev 0) e_int) e_str (nomark _)) (e_ix x_ix (ev 1) (e_ix x_ix (ev 0) e_int)) (e_ix x_ix (ev 0) e_int))))) (fun ds G R h => ?_)
  · obtain ⟨o, a, bs, rfl, _⟩ := h; rfl
  · obtain ⟨o, a, bs, rfl, ha, hy, post⟩ := h
    cases o with
    | num m =>
      (dsimp! only [Opd.d, sw_all]; repeat (simp only [Go]; dsimp! only [Opd.d, sw_all]))
      exact post
    | box y =>
      (dsimp! only [Opd.d, sw_all, ha, at_map (hy y rfl)]; repeat (simp only [Go]; dsimp! only [Opd.d, sw_all, ha, at_map (hy y rfl)]))
      exact post
theorem ok_turn_bit {n : Nat} : Ok P w mg base (n + 1) T.f_turn_bit (S_turn_bit T) := by
  refine def_ok T.f_turn_bit sc_turn_bit (fun ds G R h => ?_) (fun cdv A outer s H E hr =>
      (ss_cons (s_for (i_any (e_ix x_ix (ev 0) e_int)) (j_name 2 sc_turn_bit.nd) (ss_one (s_if (t_cmp (x_eq hr) (e_bin x_and (e_bin x_shr (e_ix x_ix (ev 1) (e_ix x_ix (ev 2) e_int)) (e_ix x_ix (ev 2) e_int)) e_int) e_int (nomark _)) (ss_one s_retN) ss_nil)))
      (ss_one (s_asg (e_bin x_xor (e_ix x_ix (ev 1) (e_ix x_ix (ev 0) e_int)) (e_bin x_shl e_int (e_ix x_ix (ev 0) e_int))) (j_sub (ev 1) (e_ix x_ix (ev 0) e_int) x_set))))) (fun ds G R h => ?_)
  · obtain ⟨x, i, cs, a, sz, bs, rfl, _⟩ := h; rfl
  · obtain ⟨x, i, cs, a, sz, bs, rfl, hok, hb, ha, post⟩ := h
    have hl := hb.len
    obtain ⟨hx, hi, _, hc⟩ := hok
    have hx' : x < bs.length := by omega
    (dsimp! only [Row.d]; repeat (simp only [Go]; dsimp! only [Row.d]))
    refine forL_ind (fun r σ G' => ∃ (cs' : List (Nat × Nat)) (v : Option D), r = cs'.map cd ∧ (∀ c ∈ cs', c ∈ cs) ∧ con bs cs = con bs cs' ∧ G' = G ∧ σ = [some (Row.turn x i cs).d, some (.ref a), v]) ⟨cs, none, rfl, fun _ h => h, rfl, rfl, rfl⟩ ?_ ?_
    · rintro σ G' ⟨cs', v, e1, _, hcon, rfl, rfl⟩
      have e2 : cs' = [] := by simpa using e1.symm
      subst e2
      refine ⟨trivial, ?_⟩
      (dsimp! only [Row.d, ha, at_map hx', ix_map hx', setm, xor_flp]; repeat (simp only [Go]; dsimp! only [Row.d, ha, at_map hx', ix_map hx', setm, xor_flp]))
      refine ⟨cpow_1 (by omega) (by omega), ?_⟩
      refine post _ ⟨?_, fun b hb => gup_ne hb⟩
      rw [gup_same]
      show _ = some (DO.lst (List.map D.int (if con bs cs = true then _ else _)))
      rw [hcon]
      rfl
    · rintro z r σ G' ⟨cs', v, e1, hsub, hcon, rfl, rfl⟩ ih
      cases cs' with
      | nil => cases e1
      | cons c cs' =>
        cases e1
        obtain ⟨h1, h2, h3⟩ := hc c (hsub c List.mem_cons_self)
        have hc1 : c.1 < bs.length := by omega
        (dsimp! only [Row.d, cd, ha, at_map hc1, and_bit]; repeat (simp only [Go]; dsimp! only [Row.d, cd, ha, at_map hc1, and_bit]))
        refine ⟨by omega, ?_⟩
        refine ite_d (fun h0 => ?_) (fun h0 => ?_)
        · refine post _ ⟨?_, fun b hb => rfl⟩
          have : con bs cs = false := by rw [hcon]; unfold con; rw [List.all_cons, h0]; rfl
          show _ = some (DO.lst (List.map D.int (if con bs cs = true then _ else _)))
          rw [this]
          exact ha
        · refine ih _ _ ⟨cs', _, rfl, fun d hd => hsub d (List.mem_cons_of_mem _ hd), ?_, rfl, rfl⟩
          rw [hcon]
          unfold con
          rw [List.all_cons]
          simp [h0]
theorem ok_change {n : Nat} (G_operand_value : Ok P w mg base n T.f_operand_value (S_operand_value T)) (G_turn_bit : Ok P w mg base n T.f_turn_bit (S_turn_bit T)) : Ok P w mg base (n + 1) T.f_change (S_change T) := by
  refine def_ok T.f_change sc_change (fun ds G R h => ?_) (fun cdv A outer s H E hr =>
      (ss_one (s_if (t_cmp (x_eq hr) (e_ix x_ix (ev 0) e_int) e_str (nomark _)) (ss_one (s_asg (e_bin x_mod (e_bin x_add (e_ix x_ix (ev 1) (e_ix x_ix (ev 0) e_int)) (e_bin x_mul (ev 2) (ec T.f_operand_value T.g_operand_value G_operand_value hr (a_cons (e_ix x_ix (ev 0) e_int) (a_cons (ev 1) a_nil))))) (e_const T.k_NUMBERS)) (j_sub (ev 1) (e_ix x_ix (ev 0) e_int) x_set))) (ss_one (s_if (t_cmp (x_eq hr) (e_ix x_ix (ev 0) e_int) e_str (nomark _)) (ss_one (s_asg (e_bin x_mod (e_bin x_sub (e_ix x_ix (ev 1) (e_ix x_ix (ev 0) e_int)) (e_bin x_mul (ev 2) (ec T.f_operand_value T.g_operand_value G_operand_value hr (a_cons (e_ix x_ix (ev 0) e_int) (a_cons (ev 1) a_nil))))) (e_const T.k_NUMBERS)) (j_sub (ev 1) (e_ix x_ix (ev 0) e_int) x_set))) (ss_one (s_if (t_cmp (x_eq hr) (e_ix x_ix (ev 0) e_int) e_str (nomark _)) (ss_one (s_expr (ec T.f_turn_bit T.g_turn_bit G_turn_bit hr (a_cons (ev 0) (a_cons (ev 1) a_nil))))) (ss_one (s_if (t_cmp (x_eq hr) (e_ix x_ix (ev 0) e_int) e_str (nomark _)) (ss_cons (s_set 3 sc_change.nd (e_ix x_ix (ev 1) (e_ix x_ix (ev 0) e_int)))
      (ss_cons (s_asg (e_ix x_ix (ev 1) (e_ix x_ix (ev 0) e_int)) (j_sub (ev 1) (e_ix x_ix (ev 0) e_int) x_set))
      (ss_one (s_asg (ev 3) (j_sub (ev 1) (e_ix x_ix (ev 0) e_int) x_set))))) ss_nil))))))))) (fun ds G R h => ?_)
  · obtain ⟨row, a, sz, s, bs, rfl, _⟩ := h; rfl
  · obtain ⟨row, a, sz, s, bs, rfl, hs, hok, hb, ha, post⟩ := h
    have hl := hb.len
    have cm : ∀ y : Int, CMul s y := fun y => .inl (by rcases hs with rfl | rfl <;> decide)
    have p1 : ((0 : Int) < 4294967296) = True := by decide
    cases row with
    | add x o =>
      have hx' : x < bs.length := by rw [hl]; exact hok.1
      (dsimp! only [Row.d, sw_all, ha, at_map hx']; repeat (simp only [Go]; dsimp! only [Row.d, sw_all, ha, at_map hx']))
      refine call_det (v := .int (val bs o)) (G1 := G) (fun R h => ⟨o, a, bs, rfl, ha, fun y e => by subst e; rw [hl]; exact hok.2.1, h⟩) ?_
      (dsimp! only [ha, at_map hx', ix_map hx', setm, cm, p1]; repeat (simp only [Go]; dsimp! only [ha, at_map hx', ix_map hx', setm, cm, p1]))
      exact post _ ⟨gup_same, fun b hb => gup_ne hb⟩
    | take x o =>
      have hx' : x < bs.length := by rw [hl]; exact hok.1
      (dsimp! only [Row.d, sw_all, ha, at_map hx']; repeat (simp only [Go]; dsimp! only [Row.d, sw_all, ha, at_map hx']))
      refine call_det (v := .int (val bs o)) (G1 := G) (fun R h => ⟨o, a, bs, rfl, ha, fun y e => by subst e; rw [hl]; exact hok.2.1, h⟩) ?_
      (dsimp! only [ha, at_map hx', ix_map hx', setm, cm, p1]; repeat (simp only [Go]; dsimp! only [ha, at_map hx', ix_map hx', setm, cm, p1]))
      exact post _ ⟨gup_same, fun b hb => gup_ne hb⟩
    | turn x i cs =>
      (dsimp! only [Row.d, sw_all]; repeat (simp only [Go]; dsimp! only [Row.d, sw_all]))
      refine call_nd (post := fun d G' => d = .non ∧ Upd1 a (stp 1 bs (.turn x i cs)) G G') (fun R h => ⟨x, i, cs, a, sz, bs, rfl, hok, hb, ha, fun G' u => h _ _ ⟨rfl, u⟩⟩) ?_
      rintro d G' ⟨rfl, u⟩
      exact post _ u
    | swap x y =>
      have hx' : x < bs.length := by rw [hl]; exact hok.1
      have hy' : y < bs.length := by rw [hl]; exact hok.2.1
      have hx2 : x < (bs.set x (gt bs y)).length := by rw [List.length_set]; exact hx'
      have hy2 : y < (bs.set x (gt bs y)).length := by rw [List.length_set]; exact hy'
      (dsimp! only [Row.d, sw_all, ha, at_map hx', at_map hy', ix_map hx', setm, ix_map hy2, gup_gup]; repeat (simp only [Go]; dsimp! only [Row.d, sw_all, ha, at_map hx', at_map hy', ix_map hx', setm, ix_map hy2, gup_gup]))
      exact post _ ⟨gup_same, fun b hb => gup_ne hb⟩
    | go x m k =>
      (dsimp! only [Row.d, sw_all]; repeat (simp only [Go]; dsimp! only [Row.d, sw_all]))
      exact post _ ⟨ha, fun b hb => rfl⟩
    | come x m k =>
      (dsimp! only [Row.d, sw_all]; repeat (simp only [Go]; dsimp! only [Row.d, sw_all]))
      exact post _ ⟨ha, fun b hb => rfl⟩
theorem ok_Ride_init {n : Nat} : Ok P w mg base (n + 1) T.f_Ride_init (S_Ride_init T) := by
  refine def_ok T.f_Ride_init sc_Ride_init (fun ds G R h => ?_) (fun cdv A outer s H E hr =>
      (ss_cons (s_fld T.c_Ride.cl T.c_Ride.n_rows (ev 0) (e_callTy x_toList rfl T.b_list (by decide +kernel) (a_cons (e_ix x_ix (ev 1) e_int) a_nil)))
      (ss_cons (s_fld T.c_Ride.cl T.c_Ride.n_held (ev 0) (e_callTy x_toList rfl T.b_list (by decide +kernel) (a_cons (ev 2) a_nil)))
      (ss_one (s_fld T.c_Ride.cl T.c_Ride.n_spot (ev 0) (ev 3)))))) (fun ds G R h => ?_)
  · obtain ⟨p, c0, cr, bx, rs, bs, s, rfl, _⟩ := h; rfl
  · obtain ⟨p, c0, cr, bx, rs, bs, s, rfl, hp, hcr, hbx, post⟩ := h
    (dsimp! only [hcr]; repeat (simp only [Go]; dsimp! only [hcr]))
    intro ra hra
    have n1 : p ≠ ra := gne hp hra
    have n2 : bx ≠ ra := gne hbx hra
    (dsimp! only [gup_ne n1, hp, sf_all, beq_self_eq_true, List.lookup_cons, List.lookup_nil, putD]; repeat (simp only [Go]; dsimp! only [gup_ne n1, hp, sf_all, beq_self_eq_true, List.lookup_cons, List.lookup_nil, putD]))
    refine ⟨by decide, ?_⟩
    have n3 : bx ≠ p := by intro e; rw [e, hp] at hbx; cases hbx
    (dsimp! only [gup_ne n3, gup_ne n2, hbx]; repeat (simp only [Go]; dsimp! only [gup_ne n3, gup_ne n2, hbx]))
    intro ha hha
    have n4 : ha ≠ p := by intro e; rw [e, gup_same] at hha; cases hha
    have n5 : ha ≠ ra := by intro e; rw [e, gup_ne (Ne.symm n1), gup_same] at hha; cases hha
    rw [gup_ne n4, gup_ne n5] at hha
    (dsimp! only [gup_ne (Ne.symm n4), sf_all, beq_self_eq_true, List.lookup_cons, List.lookup_nil, putD]; repeat (simp only [Go]; dsimp! only [gup_ne (Ne.symm n4), sf_all, beq_self_eq_true, List.lookup_cons, List.lookup_nil, putD]))
    refine ⟨by decide, by decide, ?_⟩
    refine post ra ha _ hra hha ⟨by rw [gup_same]; rfl, ?_, ?_, Ne.symm n5⟩ fun b o hb e => ?_
    · rw [gup_ne (Ne.symm n1), gup_ne (Ne.symm n1), gup_ne (Ne.symm n5), gup_ne (Ne.symm n1), gup_same]
    · rw [gup_ne n4, gup_ne n4, gup_same]
    · rw [gup_ne hb, gup_ne hb, gup_ne (gne e hha), gup_ne hb, gup_ne (gne e hra)]
      exact e
theorem ok_Ride_place {n : Nat} : Ok P w mg base (n + 1) T.f_Ride_place (S_Ride_place T) := by
  refine def_ok T.f_Ride_place sc_Ride_place (fun ds G R h => ?_) (fun cdv A outer s H E hr =>
      (ss_one (s_ret (e_fld T.c_Ride.cl T.c_Ride.n_spot (ev 0))))) (fun ds G R h => ?_)
  · obtain ⟨p, ra, ha, rs, bs, s, rfl, _⟩ := h; rfl
  · obtain ⟨p, ra, ha, rs, bs, s, rfl, A, post⟩ := h
    (dsimp! only [A.ob, A.ro, fl_all]; repeat (simp only [Go]; dsimp! only [A.ob, A.ro, fl_all]))
    exact post
theorem ok_Ride_boxes {n : Nat} : Ok P w mg base (n + 1) T.f_Ride_boxes (S_Ride_boxes T) := by
  refine def_ok T.f_Ride_boxes sc_Ride_boxes (fun ds G R h => ?_) (fun cdv A outer s H E hr =>
      (ss_one (s_ret (e_callTy x_toList rfl T.b_list (by decide +kernel) (a_cons (e_fld T.c_Ride.cl T.c_Ride.n_held (ev 0)) a_nil))))) (fun ds G R h => ?_)
  · obtain ⟨p, ra, ha, rs, bs, s, rfl, _⟩ := h; rfl
  · obtain ⟨p, ra, ha, rs, bs, s, rfl, A, post⟩ := h
    (dsimp! only [A.ob, A.he, fl_all]; repeat (simp only [Go]; dsimp! only [A.ob, A.he, fl_all]))
    exact post
theorem ok_Ride_at_end {n : Nat} : Ok P w mg base (n + 1) T.f_Ride_at_end (S_Ride_at_end T) := by
  refine def_ok T.f_Ride_at_end sc_Ride_at_end (fun ds G R h => ?_) (fun cdv A outer s H E hr =>
      (ss_one (s_ret (e_cmp (x_eq hr) (e_fld T.c_Ride.cl T.c_Ride.n_spot (ev 0)) (e_callB x_len rfl T.b_len (by decide +kernel) (a_cons (e_fld T.c_Ride.cl T.c_Ride.n_rows (ev 0)) a_nil)) (nomark _))))) (fun ds G R h => ?_)
  · obtain ⟨p, ra, ha, rs, bs, s, rfl, _⟩ := h; rfl
  · obtain ⟨p, ra, ha, rs, bs, s, rfl, A, post⟩ := h
    (dsimp! only [A.ob, A.ro, fl_all, List.length_map]; repeat (simp only [Go]; dsimp! only [A.ob, A.ro, fl_all, List.length_map]))
    have e : decide ((s : Int) = (rs.length : Int)) = decide (s = rs.length) := by
      by_cases q : s = rs.length
      · simp [q]
      · have : ¬ (s : Int) = (rs.length : Int) := by omega
        simp [q, this]
    rw [e]
    exact post
theorem ok_Ride_at_begin {n : Nat} : Ok P w mg base (n + 1) T.f_Ride_at_begin (S_Ride_at_begin T) := by
  refine def_ok T.f_Ride_at_begin sc_Ride_at_begin (fun ds G R h => ?_) (fun cdv A outer s H E hr =>
      (ss_one (s_ret (e_cmp (x_eq hr) (e_fld T.c_Ride.cl T.c_Ride.n_spot (ev 0)) e_int (nomark _))))) (fun ds G R h => ?_)
  · obtain ⟨p, ra, ha, rs, bs, s, rfl, _⟩ := h; rfl
  · obtain ⟨p, ra, ha, rs, bs, s, rfl, A, post⟩ := h
    (dsimp! only [A.ob, A.ro, fl_all]; repeat (simp only [Go]; dsimp! only [A.ob, A.ro, fl_all]))
    have e : decide ((s : Int) = 0) = decide (s = 0) := by
      by_cases q : s = 0
      · simp [q]
      · have : ¬ (s : Int) = 0 := by omega
        simp [q, this]
    rw [e]
    exact post
theorem ok_Ride_may_forth {n : Nat} (G_Ride_at_end : Ok P w mg base n T.f_Ride_at_end (S_Ride_at_end T)) (G_holds : Ok P w mg base n T.f_holds (S_holds T)) : Ok P w mg base (n + 1) T.f_Ride_may_forth (S_Ride_may_forth T) := by
  refine def_ok T.f_Ride_may_forth sc_Ride_may_forth (fun ds G R h => ?_) (fun cdv A outer s H E hr =>
      (ss_cons (s_if (t_val (em0 T.c_Ride.cl T.f_Ride_at_end T.m_Ride_at_end G_Ride_at_end hr (ev 0))) (ss_one (s_ret e_bl)) ss_nil)
      (ss_cons (s_set 1 sc_Ride_may_forth.nd (e_ix x_ix (e_fld T.c_Ride.cl T.c_Ride.n_rows (ev 0)) (e_fld T.c_Ride.cl T.c_Ride.n_spot (ev 0))))
      (ss_one (s_ret (e_not (e_and (e_cmp (x_eq hr) (e_ix x_ix (ev 1) e_int) e_str (nomark _)) (e_one (ec T.f_holds T.g_holds G_holds hr (a_cons (ev 1) (a_cons (e_fld T.c_Ride.cl T.c_Ride.n_held (ev 0)) a_nil))))))))))) (fun ds G R h => ?_)
  · obtain ⟨p, ra, ha, rs, bs, s, sz, rfl, _⟩ := h; rfl
  · obtain ⟨p, ra, ha, rs, bs, s, sz, rfl, A, c, post⟩ := h
    (dsimp! only [A.ob, fl_all]; repeat (simp only [Go]; dsimp! only [A.ob, fl_all]))
    refine call_det (v := .bl (decide (s = rs.length))) (G1 := G) (fun R h => ⟨p, ra, ha, rs, bs, s, rfl, A, h⟩) ?_
    (dsimp! only [A.ob, fl_all]; repeat (simp only [Go]; dsimp! only [A.ob, fl_all]))
    refine ite_d (fun h0 => ?_) (fun h0 => ?_)
    · subst h0
      have : mayF rs bs rs.length = false := by unfold mayF; rw [List.getElem?_eq_none (Nat.le_refl _)]
      rw [this] at post
      exact post
    · have hlt : s < rs.length := by have := c.le; omega
      have hg := List.getElem?_eq_getElem hlt
      have hok := c.ro _ (List.getElem_mem hlt)
      have hl := c.bo.len
      unfold mayF at post
      rw [hg] at post
      (dsimp! only [A.ob, A.ro, fl_all, at_rows hg]; repeat (simp only [Go]; dsimp! only [A.ob, A.ro, fl_all, at_rows hg]))
      revert hok post
      cases rs[s] with
      | come x m k =>
        intro post hok
        (dsimp! only [Row.d, sw_all, A.ob, fl_all]; repeat (simp only [Go]; dsimp! only [Row.d, sw_all, A.ob, fl_all]))
        refine call_det (v := .bl (decide (gt bs x = m))) (G1 := G) (fun R h => ⟨.come x m k, ha, x, bs, m, k, rfl, .inr rfl, A.he, by rw [hl]; exact hok.1, h⟩) ?_
        exact post
      | go x m k => intro post hok; (dsimp! only [Row.d, sw_all]; repeat (simp only [Go]; dsimp! only [Row.d, sw_all])); exact post
      | add x o => intro post hok; (dsimp! only [Row.d, sw_all]; repeat (simp only [Go]; dsimp! only [Row.d, sw_all])); exact post
      | take x o => intro post hok; (dsimp! only [Row.d, sw_all]; repeat (simp only [Go]; dsimp! only [Row.d, sw_all])); exact post
      | turn x i cs => intro post hok; (dsimp! only [Row.d, sw_all]; repeat (simp only [Go]; dsimp! only [Row.d, sw_all])); exact post
      | swap x y => intro post hok; (dsimp! only [Row.d, sw_all]; repeat (simp only [Go]; dsimp! only [Row.d, sw_all])); exact post
theorem ok_Ride_may_back {n : Nat} (G_Ride_at_begin : Ok P w mg base n T.f_Ride_at_begin (S_Ride_at_begin T)) (G_holds : Ok P w mg base n T.f_holds (S_holds T)) : Ok P w mg base (n + 1) T.f_Ride_may_back (S_Ride_may_back T) := by
  refine def_ok T.f_Ride_may_back sc_Ride_may_back (fun ds G R h => ?_) (fun cdv A outer s H E hr =>
      (ss_cons (s_if (t_val (em0 T.c_Ride.cl T.f_Ride_at_begin T.m_Ride_at_begin G_Ride_at_begin hr (ev 0))) (ss_one (s_ret e_bl)) ss_nil)
      (ss_cons (s_set 1 sc_Ride_may_back.nd (e_ix x_ix (e_fld T.c_Ride.cl T.c_Ride.n_rows (ev 0)) (e_bin x_sub (e_fld T.c_Ride.cl T.c_Ride.n_spot (ev 0)) e_int)))
      (ss_one (s_ret (e_not (e_and (e_cmp (x_eq hr) (e_ix x_ix (ev 1) e_int) e_str (nomark _)) (e_one (ec T.f_holds T.g_holds G_holds hr (a_cons (ev 1) (a_cons (e_fld T.c_Ride.cl T.c_Ride.n_held (ev 0)) a_nil))))))))))) (fun ds G R h => ?_)
  · obtain ⟨p, ra, ha, rs, bs, s, sz, rfl, _⟩ := h; rfl
  · obtain ⟨p, ra, ha, rs, bs, s, sz, rfl, A, c, post⟩ := h
    (dsimp! only [A.ob, fl_all]; repeat (simp only [Go]; dsimp! only [A.ob, fl_all]))
    refine call_det (v := .bl (decide (s = 0))) (G1 := G) (fun R h => ⟨p, ra, ha, rs, bs, s, rfl, A, h⟩) ?_
    (dsimp! only [A.ob, fl_all]; repeat (simp only [Go]; dsimp! only [A.ob, fl_all]))
    refine ite_d (fun h0 => ?_) (fun h0 => ?_)
    · subst h0
      have : mayB rs bs 0 = false := rfl
      rw [this] at post
      exact post
    · have hle := c.le
      have hlt : s - 1 < rs.length := by omega
      have hg := List.getElem?_eq_getElem hlt
      have hok := c.ro _ (List.getElem_mem hlt)
      have hl := c.bo.len
      have e1 : (s : Int) - 1 = ((s - 1 : Nat) : Int) := by omega
      unfold mayB at post
      rw [if_neg h0, hg] at post
      (dsimp! only [A.ob, A.ro, fl_all, e1, at_rows hg]; repeat (simp only [Go]; dsimp! only [A.ob, A.ro, fl_all, e1, at_rows hg]))
      revert hok post
      cases rs[s - 1] with
      | go x m k =>
        intro post hok
        (dsimp! only [Row.d, sw_all, A.ob, fl_all]; repeat (simp only [Go]; dsimp! only [Row.d, sw_all, A.ob, fl_all]))
        refine call_det (v := .bl (decide (gt bs x = m))) (G1 := G) (fun R h => ⟨.go x m k, ha, x, bs, m, k, rfl, .inl rfl, A.he, by rw [hl]; exact hok.1, h⟩) ?_
        exact post
      | come x m k => intro post hok; (dsimp! only [Row.d, sw_all]; repeat (simp only [Go]; dsimp! only [Row.d, sw_all])); exact post
      | add x o => intro post hok; (dsimp! only [Row.d, sw_all]; repeat (simp only [Go]; dsimp! only [Row.d, sw_all])); exact post
      | take x o => intro post hok; (dsimp! only [Row.d, sw_all]; repeat (simp only [Go]; dsimp! only [Row.d, sw_all])); exact post
      | turn x i cs => intro post hok; (dsimp! only [Row.d, sw_all]; repeat (simp only [Go]; dsimp! only [Row.d, sw_all])); exact post
      | swap x y => intro post hok; (dsimp! only [Row.d, sw_all]; repeat (simp only [Go]; dsimp! only [Row.d, sw_all])); exact post
theorem ok_Ride_forth {n : Nat} (G_Ride_may_forth : Ok P w mg base n T.f_Ride_may_forth (S_Ride_may_forth T)) (G_holds : Ok P w mg base n T.f_holds (S_holds T)) (G_change : Ok P w mg base n T.f_change (S_change T)) : Ok P w mg base (n + 1) T.f_Ride_forth (S_Ride_forth T) := by
  refine def_ok T.f_Ride_forth sc_Ride_forth (fun ds G R h => ?_) (fun cdv A outer s H E hr =>
      (ss_cons (s_if (t_not (t_val (em0 T.c_Ride.cl T.f_Ride_may_forth T.m_Ride_may_forth G_Ride_may_forth hr (ev 0)))) (ss_one (s_ret e_bl)) ss_nil)
      (ss_cons (s_set 1 sc_Ride_forth.nd (e_ix x_ix (e_fld T.c_Ride.cl T.c_Ride.n_rows (ev 0)) (e_fld T.c_Ride.cl T.c_Ride.n_spot (ev 0))))
      (ss_cons (s_if (t_w (w_and (t_cmp (x_eq hr) (e_ix x_ix (ev 1) e_int) e_str (nomark _)) (w_and1 (t_val (ec T.f_holds T.g_holds G_holds hr (a_cons (ev 1) (a_cons (e_fld T.c_Ride.cl T.c_Ride.n_held (ev 0)) a_nil))))))) (ss_cons (s_fld T.c_Ride.cl T.c_Ride.n_spot (ev 0) (e_bin x_add (e_ix x_ix (ev 1) e_int) e_int))
      (ss_one (s_ret e_bl))) ss_nil)
      (ss_cons (s_expr (ec T.f_change T.g_change G_change hr (a_cons (ev 1) (a_cons (e_fld T.c_Ride.cl T.c_Ride.n_held (ev 0)) (a_cons e_int a_nil)))))
      (ss_cons (s_augF T.c_Ride.cl T.c_Ride.n_spot (ev 0) e_int x_iadd)
      (ss_one (s_ret e_bl)))))))) (fun ds G R h => ?_)
  · obtain ⟨p, ra, ha, rs, bs, s, sz, rfl, _⟩ := h; rfl
  · obtain ⟨p, ra, ha, rs, bs, s, sz, rfl, A, c, post⟩ := h
    have hph := A.ph
    have hpr := A.pr
    have hl := c.bo.len
    (dsimp! only [A.ob, fl_all]; repeat (simp only [Go]; dsimp! only [A.ob, fl_all]))
    refine call_det (v := .bl (mayF rs bs s)) (G1 := G) (fun R h => ⟨p, ra, ha, rs, bs, s, sz, rfl, A, c, h⟩) ?_
    (dsimp! only [id]; repeat (simp only [Go]; dsimp! only [id]))
    cases hm : mayF rs bs s with
    | false =>
      (dsimp! only [id]; repeat (simp only [Go]; dsimp! only [id]))
      rw [hm] at post
      exact post G (fun _ => rfl) fun z => by cases z
    | true =>
      (dsimp! only [id]; repeat (simp only [Go]; dsimp! only [id]))
      rw [hm] at post
      have hlt : s < rs.length := by
        by_cases q : s < rs.length
        · exact q
        · unfold mayF at hm; rw [List.getElem?_eq_none (by omega)] at hm; cases hm
      have hg := List.getElem?_eq_getElem hlt
      have hok := c.ro _ (List.getElem_mem hlt)
      (dsimp! only [A.ob, A.ro, fl_all, at_rows hg]; repeat (simp only [Go]; dsimp! only [A.ob, A.ro, fl_all, at_rows hg]))
      -- a row that changes boxes: change, then the place
      have step : ∀ (row : Row), rs[s] = row → row.ok sz → (nxF rs bs s = (s + 1, stp 1 bs row)) → ∃ R1, S_change T [row.d, .ref ha, .int 1] G R1 ∧ ∀ d G', R1 d G' → ∃ fs', G' p = some (.ins T.c_Ride.C fs') ∧ fs' = flds ra ha s ∧ R (.bl true) (gup G' p (.ins T.c_Ride.C (flds ra ha (s + 1)))) := by
        intro row _ hrok hnx
        refine call_nd (post := fun d G' => d = .non ∧ Upd1 ha (stp 1 bs row) G G') (fun R h => ⟨row, ha, sz, 1, bs, rfl, .inl rfl, hrok, c.bo, A.he, fun G' u => h _ _ ⟨rfl, u⟩⟩) ?_
        rintro d G' ⟨rfl, u⟩
        refine ⟨flds ra ha s, by rw [u.kp p hph]; exact A.ob, rfl, ?_⟩
        refine post _ (fun z => by cases z) fun _ => ?_
        rw [hnx]
        refine ⟨⟨gup_same, by rw [gup_ne (Ne.symm hpr), u.kp ra A.ne]; exact A.ro, by rw [gup_ne (Ne.symm hph)]; exact u.at_, A.ne⟩, fun b h1 h2 => by rw [gup_ne h1, u.kp b h2]⟩
      have fin : ∀ {row : Row} {tl : D → Gp → Prop}, (∃ R1, S_change T [row.d, .ref ha, .int 1] G R1 ∧ ∀ d G', R1 d G' → ∃ fs', G' p = some (.ins T.c_Ride.C fs') ∧ fs' = flds ra ha s ∧ R (.bl true) (gup G' p (.ins T.c_Ride.C (flds ra ha (s + 1))))) →
          (∀ d G', (∃ fs', G' p = some (.ins T.c_Ride.C fs') ∧ fs' = flds ra ha s ∧ R (.bl true) (gup G' p (.ins T.c_Ride.C (flds ra ha (s + 1))))) → tl d G') → ∃ R1, S_change T [row.d, .ref ha, .int 1] G R1 ∧ ∀ d G', R1 d G' → tl d G' := fun ⟨R1, a, b⟩ h => ⟨R1, a, fun d G' q => h d G' (b d G' q)⟩
      have es : ((s : Int) + 1) = ((s + 1 : Nat) : Int) := by omega
      rcases kindsF rs[s] with ⟨x, m, k, hrow⟩ | ⟨w, rest, hd, hw, hnx⟩
      · rw [hrow]
        rw [hrow] at hok
        (dsimp! only [Row.d, sw_all, A.ob, fl_all]; repeat (simp only [Go]; dsimp! only [Row.d, sw_all, A.ob, fl_all]))
        refine call_det (v := .bl (decide (gt bs x = m))) (G1 := G) (fun R h => ⟨.go x m k, ha, x, bs, m, k, rfl, .inl rfl, A.he, by rw [hl]; exact hok.1, h⟩) ?_
        (dsimp! only [id]; repeat (simp only [Go]; dsimp! only [id]))
        refine ite_d (fun h0 => ?_) (fun h0 => ?_)
        · (dsimp! only [A.ob, fl_all]; repeat (simp only [Go]; dsimp! only [A.ob, fl_all]))
          refine ⟨fl_len, ?_⟩
          refine post _ (fun z => by cases z) fun _ => ?_
          have hnx : nxF rs bs s = (k + 1, bs) := by unfold nxF; rw [hg, hrow]; simp [h0]
          rw [hnx]
          refine ⟨⟨?_, by rw [gup_ne (Ne.symm hpr)]; exact A.ro, by rw [gup_ne (Ne.symm hph)]; exact A.he, A.ne⟩, fun b h1 h2 => gup_ne h1⟩
          rw [gup_same]
          unfold flds
          rw [show ((k + 1 : Nat) : Int) = (k : Int) + 1 by omega]
        · (dsimp! only [A.ob, fl_all]; repeat (simp only [Go]; dsimp! only [A.ob, fl_all]))
          refine fin (row := .go x m k) (step _ hrow hok (by unfold nxF; rw [hg, hrow]; simp [h0, stp])) ?_
          rintro d G' ⟨fs', e1, rfl, q⟩
          (dsimp! only [e1, fl_all, es]; repeat (simp only [Go]; dsimp! only [e1, fl_all, es]))
          exact ⟨fl_len, q⟩
      · (dsimp! only [hd, hw, A.ob, fl_all]; repeat (simp only [Go]; dsimp! only [hd, hw, A.ob, fl_all]))
        rw [← hd]
        refine fin (row := rs[s]) (step _ rfl hok (hnx rs bs s hg)) ?_
        rintro d G' ⟨fs', e1, rfl, q⟩
        (dsimp! only [e1, fl_all, es]; repeat (simp only [Go]; dsimp! only [e1, fl_all, es]))
        exact ⟨fl_len, q⟩
theorem ok_Ride_back {n : Nat} (G_Ride_may_back : Ok P w mg base n T.f_Ride_may_back (S_Ride_may_back T)) (G_holds : Ok P w mg base n T.f_holds (S_holds T)) (G_change : Ok P w mg base n T.f_change (S_change T)) : Ok P w mg base (n + 1) T.f_Ride_back (S_Ride_back T) := by
  refine def_ok T.f_Ride_back sc_Ride_back (fun ds G R h => ?_) (fun cdv A outer s H E hr =>
      (ss_cons (s_if (t_not (t_val (em0 T.c_Ride.cl T.f_Ride_may_back T.m_Ride_may_back G_Ride_may_back hr (ev 0)))) (ss_one (s_ret e_bl)) ss_nil)
      (ss_cons (s_set 1 sc_Ride_back.nd (e_ix x_ix (e_fld T.c_Ride.cl T.c_Ride.n_rows (ev 0)) (e_bin x_sub (e_fld T.c_Ride.cl T.c_Ride.n_spot (ev 0)) e_int)))
      (ss_cons (s_if (t_w (w_and (t_cmp (x_eq hr) (e_ix x_ix (ev 1) e_int) e_str (nomark _)) (w_and1 (t_val (ec T.f_holds T.g_holds G_holds hr (a_cons (ev 1) (a_cons (e_fld T.c_Ride.cl T.c_Ride.n_held (ev 0)) a_nil))))))) (ss_cons (s_fld T.c_Ride.cl T.c_Ride.n_spot (ev 0) (e_ix x_ix (ev 1) e_int))
      (ss_one (s_ret e_bl))) ss_nil)
      (ss_cons (s_expr (ec T.f_change T.g_change G_change hr (a_cons (ev 1) (a_cons (e_fld T.c_Ride.cl T.c_Ride.n_held (ev 0)) (a_cons (e_un x_neg e_int) a_nil)))))
      (ss_cons (s_augF T.c_Ride.cl T.c_Ride.n_spot (ev 0) e_int x_isub)
      (ss_one (s_ret e_bl)))))))) (fun ds G R h => ?_)
  · obtain ⟨p, ra, ha, rs, bs, s, sz, rfl, _⟩ := h; rfl
  · obtain ⟨p, ra, ha, rs, bs, s, sz, rfl, A, c, post⟩ := h
    have hph := A.ph
    have hpr := A.pr
    have hl := c.bo.len
    (dsimp! only [A.ob, fl_all]; repeat (simp only [Go]; dsimp! only [A.ob, fl_all]))
    refine call_det (v := .bl (mayB rs bs s)) (G1 := G) (fun R h => ⟨p, ra, ha, rs, bs, s, sz, rfl, A, c, h⟩) ?_
    (dsimp! only [id]; repeat (simp only [Go]; dsimp! only [id]))
    cases hm : mayB rs bs s with
    | false =>
      (dsimp! only [id]; repeat (simp only [Go]; dsimp! only [id]))
      rw [hm] at post
      exact post G (fun _ => rfl) fun z => by cases z
    | true =>
      (dsimp! only [id]; repeat (simp only [Go]; dsimp! only [id]))
      rw [hm] at post
      have h00 : ¬ s = 0 := by intro e; subst e; cases hm
      have hle := c.le
      have hlt : s - 1 < rs.length := by omega
      have e1 : (s : Int) - 1 = ((s - 1 : Nat) : Int) := by omega
      have hg := List.getElem?_eq_getElem hlt
      have hok := c.ro _ (List.getElem_mem hlt)
      (dsimp! only [A.ob, A.ro, fl_all, e1, at_rows hg]; repeat (simp only [Go]; dsimp! only [A.ob, A.ro, fl_all, e1, at_rows hg]))
      -- a row that changes boxes: change, then the place
      have step : ∀ (row : Row), rs[s - 1] = row → row.ok sz → (nxB rs bs s = (s - 1, stp (-1) bs row)) → ∃ R1, S_change T [row.d, .ref ha, .int (-1)] G R1 ∧ ∀ d G', R1 d G' → ∃ fs', G' p = some (.ins T.c_Ride.C fs') ∧ fs' = flds ra ha s ∧ R (.bl true) (gup G' p (.ins T.c_Ride.C (flds ra ha (s - 1)))) := by
        intro row _ hrok hnx
        refine call_nd (post := fun d G' => d = .non ∧ Upd1 ha (stp (-1) bs row) G G') (fun R h => ⟨row, ha, sz, -1, bs, rfl, .inr rfl, hrok, c.bo, A.he, fun G' u => h _ _ ⟨rfl, u⟩⟩) ?_
        rintro d G' ⟨rfl, u⟩
        refine ⟨flds ra ha s, by rw [u.kp p hph]; exact A.ob, rfl, ?_⟩
        refine post _ (fun z => by cases z) fun _ => ?_
        rw [hnx]
        refine ⟨⟨gup_same, by rw [gup_ne (Ne.symm hpr), u.kp ra A.ne]; exact A.ro, by rw [gup_ne (Ne.symm hph)]; exact u.at_, A.ne⟩, fun b h1 h2 => by rw [gup_ne h1, u.kp b h2]⟩
      have fin : ∀ {row : Row} {tl : D → Gp → Prop}, (∃ R1, S_change T [row.d, .ref ha, .int (-1)] G R1 ∧ ∀ d G', R1 d G' → ∃ fs', G' p = some (.ins T.c_Ride.C fs') ∧ fs' = flds ra ha s ∧ R (.bl true) (gup G' p (.ins T.c_Ride.C (flds ra ha (s - 1))))) →
          (∀ d G', (∃ fs', G' p = some (.ins T.c_Ride.C fs') ∧ fs' = flds ra ha s ∧ R (.bl true) (gup G' p (.ins T.c_Ride.C (flds ra ha (s - 1))))) → tl d G') → ∃ R1, S_change T [row.d, .ref ha, .int (-1)] G R1 ∧ ∀ d G', R1 d G' → tl d G' := fun ⟨R1, a, b⟩ h => ⟨R1, a, fun d G' q => h d G' (b d G' q)⟩
      have es : ((s : Int) - 1) = ((s - 1 : Nat) : Int) := e1
      rcases kindsB rs[s - 1] with ⟨x, m, k, hrow⟩ | ⟨w, rest, hd, hw, hnx⟩
      · rw [hrow]
        rw [hrow] at hok
        (dsimp! only [Row.d, sw_all, A.ob, fl_all]; repeat (simp only [Go]; dsimp! only [Row.d, sw_all, A.ob, fl_all]))
        refine call_det (v := .bl (decide (gt bs x = m))) (G1 := G) (fun R h => ⟨.come x m k, ha, x, bs, m, k, rfl, .inr rfl, A.he, by rw [hl]; exact hok.1, h⟩) ?_
        (dsimp! only [id]; repeat (simp only [Go]; dsimp! only [id]))
        refine ite_d (fun h0 => ?_) (fun h0 => ?_)
        · (dsimp! only [A.ob, fl_all]; repeat (simp only [Go]; dsimp! only [A.ob, fl_all]))
          refine ⟨fl_len, ?_⟩
          refine post _ (fun z => by cases z) fun _ => ?_
          have hnx : nxB rs bs s = (k, bs) := by unfold nxB; rw [hg, hrow]; simp [h0]
          rw [hnx]
          refine ⟨⟨?_, by rw [gup_ne (Ne.symm hpr)]; exact A.ro, by rw [gup_ne (Ne.symm hph)]; exact A.he, A.ne⟩, fun b h1 h2 => gup_ne h1⟩
          rw [gup_same]
          rfl
        · (dsimp! only [A.ob, fl_all]; repeat (simp only [Go]; dsimp! only [A.ob, fl_all]))
          refine fin (row := .come x m k) (step _ hrow hok (by unfold nxB; rw [hg, hrow]; simp [h0, stp])) ?_
          rintro d G' ⟨fs', e1, rfl, q⟩
          (dsimp! only [e1, fl_all, es]; repeat (simp only [Go]; dsimp! only [e1, fl_all, es]))
          exact ⟨fl_len, q⟩
      · (dsimp! only [hd, hw, A.ob, fl_all]; repeat (simp only [Go]; dsimp! only [hd, hw, A.ob, fl_all]))
        rw [← hd]
        refine fin (row := rs[s - 1]) (step _ rfl hok (hnx rs bs s hg)) ?_
        rintro d G' ⟨fs', e1, rfl, q⟩
        (dsimp! only [e1, fl_all, es]; repeat (simp only [Go]; dsimp! only [e1, fl_all, es]))
        exact ⟨fl_len, q⟩
theorem ok_law_value {n : Nat} : Ok P w mg base (n + 1) T.f_law_value (S_law_value T) := by
  refine def_ok T.f_law_value sc_law_value (fun ds G R h => ?_) (fun cdv A outer s H E hr =>
      (ss_cons (s_if (t_cmp (x_eq hr) (e_ix x_ix (ev 1) e_int) e_str (nomark _)) (ss_one (s_ret (e_ix x_ix (ev 0) (e_ix x_ix (ev 1) e_int)))) ss_nil)
      (ss_one (s_ret (e_ix x_ix (ev 1) e_int))))) (fun ds G R h => ?_)
  · obtain ⟨o, a, bs, rfl, _⟩ := h; rfl
  · obtain ⟨o, a, bs, rfl, ha, hy, post⟩ := h
    cases o with
    | num m =>
      (dsimp! only [Opd.d, sw_all]; repeat (simp only [Go]; dsimp! only [Opd.d, sw_all]))
      exact post
    | box y =>
      (dsimp! only [Opd.d, sw_all, ha, at_map (hy y rfl)]; repeat (simp only [Go]; dsimp! only [Opd.d, sw_all, ha, at_map (hy y rfl)]))
      exact post
theorem ok_law_done {n : Nat} (G_law_value : Ok P w mg base n T.f_law_value (S_law_value T)) : Ok P w mg base (n + 1) T.f_law_done (S_law_done T) := by
  refine def_ok T.f_law_done sc_law_done (fun ds G R h => ?_) (fun cdv A outer s H E hr =>
      (ss_cons (s_set 3 sc_law_done.nd (e_callTy x_toList rfl T.b_list (by decide +kernel) (a_cons (ev 1) a_nil)))
      (ss_cons (s_set 4 sc_law_done.nd (e_ix x_ix (ev 0) e_int))
      (ss_cons (s_if (t_cmp (x_eq hr) (e_ix x_ix (ev 0) e_int) e_str (nomark _)) (ss_cons (s_asg (e_ix x_ix (ev 1) (e_ix x_ix (ev 0) e_int)) (j_sub (ev 3) (ev 4) x_set))
      (ss_one (s_asg (e_ix x_ix (ev 1) (ev 4)) (j_sub (ev 3) (e_ix x_ix (ev 0) e_int) x_set)))) (ss_one (s_if (t_cmp (x_eq hr) (e_ix x_ix (ev 0) e_int) e_str (nomark _)) (ss_one (s_if (t_cmp (x_eq hr) (e_comp (N' := ["_law_y", "_law_j", "_law_boxes_here"]) (ix := [none, none, some 1]) (blk (osc := defScope s_law_done) (N := ["_law_row", "_law_boxes_here", "_law_sign", "_law_found", "_law_x", "_law_bit_here", "_law_more"]) rfl rfl (by decide +kernel)) (i_any (e_ix x_ix (ev 0) e_int)) (fun _ _ _ _ => (j_seq (n := 2) rfl (js_cons (j_name 0 (show (["_law_y", "_law_j", "_law_boxes_here"] : List Str).Nodup by decide +kernel)) (js_cons (j_name 1 (show (["_law_y", "_law_j", "_law_boxes_here"] : List Str).Nodup by decide +kernel)) js_nil)))) (fun _ _ _ _ => (ifs_one (t_cmp (x_eq hr) (e_bin x_mod (e_bin x_div (e_ix x_ix (ev 2) (ev 0)) (e_bin x_shl e_int (ev 1))) e_int) e_int (nomark _)))) (fun _ _ _ _ => (ev 0))) (e_lst a_nil) (nomark _)) (ss_cons (s_set 5 sc_law_done.nd (e_bin x_mod (e_bin x_div (e_ix x_ix (ev 1) (ev 4)) (e_bin x_shl e_int (e_ix x_ix (ev 0) e_int))) e_int))
      (ss_one (s_asg (e_bin x_add (e_ix x_ix (ev 1) (ev 4)) (e_bin x_mul (e_bin x_shl e_int (e_ix x_ix (ev 0) e_int)) (e_bin x_sub e_int (e_bin x_mul e_int (ev 5))))) (j_sub (ev 3) (ev 4) x_set)))) ss_nil)) (ss_cons (s_set 6 sc_law_done.nd (e_bin x_mul (ec T.f_law_value T.g_law_value G_law_value hr (a_cons (ev 1) (a_cons (e_ix x_ix (ev 0) e_int) a_nil))) (ev 2)))
      (ss_cons (s_if (t_cmp (x_eq hr) (e_ix x_ix (ev 0) e_int) e_str (nomark _)) (ss_one (s_set 6 sc_law_done.nd (e_bin x_sub e_int (ev 6)))) ss_nil)
      (ss_one (s_asg (e_bin x_mod (e_bin x_add (e_ix x_ix (ev 1) (ev 4)) (ev 6)) (e_bin x_pow e_int e_int)) (j_sub (ev 3) (ev 4) x_set))))))))
      (ss_one (s_ret (ev 3))))))) (fun ds G R h => ?_)
  · obtain ⟨row, a, sz, s, bs, rfl, _⟩ := h; rfl
  · obtain ⟨row, a, sz, s, bs, rfl, hs, hok, hpl, hb, ha, post⟩ := h
    have hl := hb.len
    dsimp! only [ha]
    intro q hq
    have hqa : a ≠ q := gne ha hq
    have g1 : Grow G (gup G q (.lst (bs.map .int))) := Grow.refl.new hq
    have cs : ∀ y : Int, CMul y s := fun y => .inr (by rcases hs with rfl | rfl <;> decide)
    cases row with
    | add x o =>
      have hx' : x < bs.length := by rw [hl]; exact hok.1
      (dsimp! only [Row.d, sw_all]; repeat (simp only [Go]; dsimp! only [Row.d, sw_all]))
      refine call_det (v := .int (val bs o)) (G1 := gup G q (.lst (bs.map .int))) (fun R h => ⟨o, a, bs, rfl, by rw [gup_ne hqa]; exact ha, fun y e => by subst e; rw [hl]; exact hok.2.1, h⟩) ?_
      (dsimp! only [sw_all, gup_ne hqa, ha, at_map hx', ix_map hx', setm, cs, gup_gup]; repeat (simp only [Go]; dsimp! only [sw_all, gup_ne hqa, ha, at_map hx', ix_map hx', setm, cs, gup_gup]))
      refine ⟨cpow_2 (by decide) (by decide), by decide, ?_⟩
      refine post q _ hq ?_ (Grow.refl.new hq)
      rw [gup_same, Int.mul_comm (val bs o) s]
      rfl
    | take x o =>
      have hx' : x < bs.length := by rw [hl]; exact hok.1
      (dsimp! only [Row.d, sw_all]; repeat (simp only [Go]; dsimp! only [Row.d, sw_all]))
      refine call_det (v := .int (val bs o)) (G1 := gup G q (.lst (bs.map .int))) (fun R h => ⟨o, a, bs, rfl, by rw [gup_ne hqa]; exact ha, fun y e => by subst e; rw [hl]; exact hok.2.1, h⟩) ?_
      (dsimp! only [sw_all, gup_ne hqa, ha, at_map hx', ix_map hx', setm, cs, gup_gup]; repeat (simp only [Go]; dsimp! only [sw_all, gup_ne hqa, ha, at_map hx', ix_map hx', setm, cs, gup_gup]))
      refine ⟨cpow_2 (by decide) (by decide), by decide, ?_⟩
      refine post q _ hq ?_ (Grow.refl.new hq)
      have e : gt bs x + (0 - val bs o * s) = gt bs x - s * val bs o := by rw [Int.mul_comm (val bs o) s]; omega
      rw [gup_same, e]
      rfl
    | swap x y =>
      have hx' : x < bs.length := by rw [hl]; exact hok.1
      have hy' : y < bs.length := by rw [hl]; exact hok.2.1
      have hy2 : y < (bs.set x (gt bs y)).length := by rw [List.length_set]; exact hy'
      (dsimp! only [Row.d, sw_all, gup_ne hqa, ha, at_map hx', at_map hy', ix_map hx', setm, ix_map hy2, gup_gup]; repeat (simp only [Go]; dsimp! only [Row.d, sw_all, gup_ne hqa, ha, at_map hx', at_map hy', ix_map hx', setm, ix_map hy2, gup_gup]))
      exact post q _ hq gup_same (Grow.refl.new hq)
    | turn x i cs' =>
      obtain ⟨hx, hi, hc2, hc⟩ := hok
      have hx' : x < bs.length := by rw [hl]; exact hx
      (dsimp! only [Row.d, sw_all]; repeat (simp only [Go]; dsimp! only [Row.d, sw_all]))
      intro p hp
      have hpq : p ≠ q := fun e => by rw [e, gup_same] at hp; cases hp
      have hpa : a ≠ p := fun e => by rw [← e, gup_ne hqa, ha] at hp; cases hp
      have hGp : G p = none := by rw [gup_ne hpq] at hp; exact hp
      refine compL_ind (fun r σ G' => ∃ (ds : List (Nat × Nat)) (ks : List Int) (v0 v1 : Option D), r = ds.map cd ∧ (∀ c ∈ ds, c ∈ cs') ∧ con bs cs' = (decide (ks = []) && con bs ds) ∧ ks.length + ds.length ≤ 2 ∧ G' = gup (gup G q (.lst (bs.map .int))) p (.lst (ks.map .int)) ∧ σ = [v0, v1, some (.ref a)])
        ⟨cs', [], none, none, rfl, fun _ h => h, rfl, by simpa using hc2, rfl, rfl⟩ ?_ ?_
      · rintro σ G' ⟨ds, ks, v0, v1, e1, _, hcon, _, rfl, rfl⟩
        have e2 : ds = [] := by simpa using e1.symm
        subst e2
        refine ⟨trivial, ?_⟩
        (dsimp! only [id]; repeat (simp only [Go]; dsimp! only [id]))
        refine ⟨by decide, fun p2 hp2 => ?_⟩
        have hp2p : p ≠ p2 := fun e => by rw [← e, gup_same] at hp2; cases hp2
        have hp2q : q ≠ p2 := fun e => by rw [← e, gup_ne (Ne.symm hpq), gup_same] at hp2; cases hp2
        have hp2a : a ≠ p2 := fun e => by rw [← e, gup_ne hpa, gup_ne hqa, ha] at hp2; cases hp2
        refine cmp_ints (ks := ks) (ms := []) (by rw [gup_ne hp2p, gup_same]; rfl) (by rw [gup_same]; rfl) ?_
        have hcon' : con bs cs' = decide (ks = []) := by rw [hcon]; show (decide (ks = []) && true) = _; rw [Bool.and_true]
        have g2 : Grow G (gup (gup (gup G q (.lst (bs.map .int))) p (.lst (ks.map .int))) p2 (.lst [])) := ((Grow.refl.new hq).own hGp).own (by rw [gup_ne (Ne.symm hp2p), gup_ne (Ne.symm hp2q)] at hp2; exact hp2)
        have hqv : gup (gup (gup G q (.lst (bs.map .int))) p (.lst (ks.map .int))) p2 (.lst []) q = some (.lst (bs.map .int)) := by rw [gup_ne hp2q, gup_ne (Ne.symm hpq), gup_same]
        have hav : gup (gup (gup G q (.lst (bs.map .int))) p (.lst (ks.map .int))) p2 (.lst []) a = some (.lst (bs.map .int)) := by rw [gup_ne hp2a, gup_ne hpa, gup_ne hqa, ha]
        rw [← hcon']
        refine ite_b (fun hb1 => ?_) (fun hb1 => ?_)
        · (dsimp! only [hav, hqv, at_map hx', ix_map hx', setm, div_bit]; repeat (simp only [Go]; dsimp! only [hav, hqv, at_map hx', ix_map hx', setm, div_bit]))
          refine ⟨cpow_1 (by omega) (by omega), cdivl_pow hi, by decide, cpow_1 (by omega) (by omega), cmul_l (by decide) (by decide), cmul_pow hi, ?_⟩
          rw [flp_is]
          refine post q _ hq ?_ (g2.own hq)
          rw [gup_same]
          show _ = some (DO.lst (List.map D.int (if con bs cs' = true then _ else _)))
          rw [hb1]
          rfl
        · (dsimp! only [id]; repeat (simp only [Go]; dsimp! only [id]))
          refine post q _ hq ?_ g2
          show _ = some (DO.lst (List.map D.int (if con bs cs' = true then _ else _)))
          rw [hb1]
          exact hqv
      · rintro z r σ G' ⟨ds, ks, v0, v1, e1, hsub, hcon, hlen, rfl, rfl⟩ ih
        cases ds with
        | nil => cases e1
        | cons c ds =>
          cases e1
          obtain ⟨h1, h2, h3⟩ := hc c (hsub c List.mem_cons_self)
          have hc1 : c.1 < bs.length := by omega
          have hav : gup (gup G q (.lst (bs.map .int))) p (.lst (ks.map .int)) a = some (.lst (bs.map .int)) := by rw [gup_ne hpa, gup_ne hqa, ha]
          refine ⟨trivial, ?_⟩
          (dsimp! only [cd, hav, at_map hc1, div_bit]; repeat (simp only [Go]; dsimp! only [cd, hav, at_map hc1, div_bit]))
          rw [List.length_cons] at hlen
          refine ⟨cpow_1 (by omega) (by omega), cdivl_pow h3, by decide, ?_⟩
          refine ite_d (fun h0 => ?_) (fun h0 => ?_)
          · refine ⟨by rw [List.length_map]; exact Nat.lt_of_le_of_lt (m := 2) (by omega) (by decide), ?_⟩
            refine ih _ _ ⟨ds, ks ++ [(c.1 : Int)], _, _, rfl, fun d hd => hsub d (List.mem_cons_of_mem _ hd), ?_, by rw [List.length_append, List.length_singleton]; omega, by rw [gup_gup, List.map_append]; rfl, rfl⟩
            rw [hcon]
            have e1 : decide (ks ++ [(c.1 : Int)] = []) = false := by simp
            rw [e1]
            unfold con
            rw [List.all_cons, h0]
            simp
          · refine ih _ _ ⟨ds, ks, _, _, rfl, fun d hd => hsub d (List.mem_cons_of_mem _ hd), ?_, by omega, rfl, rfl⟩
            rw [hcon]
            unfold con
            rw [List.all_cons]
            simp [h0]
    | go x m k => cases hpl
    | come x m k => cases hpl
theorem ok_law_forth {n : Nat} (G_law_done : Ok P w mg base n T.f_law_done (S_law_done T)) : Ok P w mg base (n + 1) T.f_law_forth (S_law_forth T) := by
  refine def_ok T.f_law_forth sc_law_forth (fun ds G R h => ?_) (fun cdv A outer s H E hr =>
      (ss_cons (s_if (t_cmp (x_eq hr) (ev 1) (e_callB x_len rfl T.b_len (by decide +kernel) (a_cons (ev 0) a_nil)) (nomark _)) (ss_one (s_ret e_non)) ss_nil)
      (ss_cons (s_set 3 sc_law_forth.nd (e_ix x_ix (ev 0) (ev 1)))
      (ss_cons (s_if (t_cmp (x_eq hr) (e_ix x_ix (ev 3) e_int) e_str (nomark _)) (ss_cons (s_if (t_cmp (x_eq hr) (e_ix x_ix (ev 2) (e_ix x_ix (ev 3) e_int)) (e_ix x_ix (ev 3) e_int) (nomark _)) (ss_one (s_ret (e_tup (a_cons (e_bin x_add (e_ix x_ix (ev 3) e_int) e_int) (a_cons (ev 2) a_nil))))) ss_nil)
      (ss_one (s_ret (e_tup (a_cons (e_bin x_add (ev 1) e_int) (a_cons (ev 2) a_nil)))))) ss_nil)
      (ss_cons (s_if (t_cmp (x_eq hr) (e_ix x_ix (ev 3) e_int) e_str (nomark _)) (ss_cons (s_if (t_cmp (x_eq hr) (e_ix x_ix (ev 2) (e_ix x_ix (ev 3) e_int)) (e_ix x_ix (ev 3) e_int) (nomark _)) (ss_one (s_ret e_non)) ss_nil)
      (ss_one (s_ret (e_tup (a_cons (e_bin x_add (ev 1) e_int) (a_cons (ev 2) a_nil)))))) ss_nil)
      (ss_one (s_ret (e_tup (a_cons (e_bin x_add (ev 1) e_int) (a_cons (ec T.f_law_done T.g_law_done G_law_done hr (a_cons (ev 3) (a_cons (ev 2) (a_cons e_int a_nil)))) a_nil)))))))))) (fun ds G R h => ?_)
  · obtain ⟨ra, a, rs, bs, s, sz, rfl, _⟩ := h; rfl
  · obtain ⟨ra, a, rs, bs, s, sz, rfl, hra, ha, c, pF, pT⟩ := h
    have hl := c.bo.len
    have hle := c.le
    dsimp! only [hra, List.length_map]
    refine ite_d (fun h0 => ?_) (fun h0 => ?_)
    · have hs : s = rs.length := by omega
      subst hs
      exact pF (by unfold mayF; rw [List.getElem?_eq_none (Nat.le_refl _)])
    · have hlt : s < rs.length := by omega
      have hg := List.getElem?_eq_getElem hlt
      have hok := c.ro _ (List.getElem_mem hlt)
      have e1 : (s : Int) + 1 = ((s + 1 : Nat) : Int) := by omega
      have s2 : 2 ≤ sizeLine := by decide
      have fin : ∀ (row : Row), rs[s] = row → row.ok sz → row.plain = true → ∀ {q : DK}, (∀ x G', (2 ≤ sizeLine ∧ R (.tup [.int ((s + 1 : Nat) : Int), x]) G') → q x G') → ∃ R1, S_law_done T [row.d, .ref a, .int 1] G R1 ∧ ∀ d G', R1 d G' → q d G' := by
        intro row hrow hrok hpl q hq
        have hm : mayF rs bs s = true := by unfold mayF; rw [hg, hrow]; cases row <;> first | rfl | cases hpl
        have hn : nxF rs bs s = (s + 1, stp 1 bs row) := by unfold nxF; rw [hg, hrow]; cases row <;> first | rfl | cases hpl
        refine call_nd (post := fun d G' => ∃ q', d = .ref q' ∧ G q' = none ∧ G' q' = some (.lst ((stp 1 bs row).map .int)) ∧ Grow G G') (fun R h => ⟨row, a, sz, 1, bs, rfl, .inl rfl, hrok, hpl, c.bo, ha, fun q' G' x y z => h _ _ ⟨q', rfl, x, y, z⟩⟩) ?_
        rintro d G' ⟨q', rfl, x, y, z⟩
        have pp := pT hm q' G'
        rw [hn] at pp
        exact hq _ _ ⟨s2, pp y (.inr x) z⟩
      (simp only [Go]; dsimp! only [hra, at_rows hg])
      rcases kinds3 rs[s] with ⟨x, m, k, hrow⟩ | ⟨x, m, k, hrow⟩ | ⟨w, rest, hd, hw1, hw2, hpl⟩
      · rw [hrow]
        rw [hrow] at hok
        have hx' : x < bs.length := by rw [hl]; exact hok.1
        have hm : mayF rs bs s = true := by unfold mayF; rw [hg, hrow]
        (dsimp! only [Row.d, sw_all, ha, at_map hx', e1]; repeat (simp only [Go]; dsimp! only [Row.d, sw_all, ha, at_map hx', e1]))
        refine ite_d (fun h1 => ?_) (fun h1 => ?_)
        · have hn : nxF rs bs s = (k + 1, bs) := by unfold nxF; rw [hg, hrow]; simp [h1]
          have pp := pT hm a G
          rw [hn] at pp
          exact ⟨s2, pp ha (.inl rfl) Grow.refl⟩
        · have hn : nxF rs bs s = (s + 1, bs) := by unfold nxF; rw [hg, hrow]; simp [h1]
          have pp := pT hm a G
          rw [hn] at pp
          exact ⟨s2, pp ha (.inl rfl) Grow.refl⟩
      · rw [hrow]
        rw [hrow] at hok
        have hx' : x < bs.length := by rw [hl]; exact hok.1
        (dsimp! only [Row.d, sw_all, ha, at_map hx', e1]; repeat (simp only [Go]; dsimp! only [Row.d, sw_all, ha, at_map hx', e1]))
        refine ite_d (fun h1 => ?_) (fun h1 => ?_)
        · exact pF (by unfold mayF; rw [hg, hrow]; simp [h1])
        · have hm : mayF rs bs s = true := by unfold mayF; rw [hg, hrow]; simp [h1]
          have hn : nxF rs bs s = (s + 1, bs) := by unfold nxF; rw [hg, hrow]; rfl
          have pp := pT hm a G
          rw [hn] at pp
          exact ⟨s2, pp ha (.inl rfl) Grow.refl⟩
      · (dsimp! only [hd, hw1, hw2, e1]; repeat (simp only [Go]; dsimp! only [hd, hw1, hw2, e1]))
        rw [← hd]
        exact fin rs[s] rfl hok hpl fun _ _ z => z
theorem ok_law_back {n : Nat} (G_law_done : Ok P w mg base n T.f_law_done (S_law_done T)) : Ok P w mg base (n + 1) T.f_law_back (S_law_back T) := by
  refine def_ok T.f_law_back sc_law_back (fun ds G R h => ?_) (fun cdv A outer s H E hr =>
      (ss_cons (s_if (t_cmp (x_eq hr) (ev 1) e_int (nomark _)) (ss_one (s_ret e_non)) ss_nil)
      (ss_cons (s_set 3 sc_law_back.nd (e_ix x_ix (ev 0) (e_bin x_sub (ev 1) e_int)))
      (ss_cons (s_if (t_cmp (x_eq hr) (e_ix x_ix (ev 3) e_int) e_str (nomark _)) (ss_cons (s_if (t_cmp (x_eq hr) (e_ix x_ix (ev 2) (e_ix x_ix (ev 3) e_int)) (e_ix x_ix (ev 3) e_int) (nomark _)) (ss_one (s_ret (e_tup (a_cons (e_ix x_ix (ev 3) e_int) (a_cons (ev 2) a_nil))))) ss_nil)
      (ss_one (s_ret (e_tup (a_cons (e_bin x_sub (ev 1) e_int) (a_cons (ev 2) a_nil)))))) ss_nil)
      (ss_cons (s_if (t_cmp (x_eq hr) (e_ix x_ix (ev 3) e_int) e_str (nomark _)) (ss_cons (s_if (t_cmp (x_eq hr) (e_ix x_ix (ev 2) (e_ix x_ix (ev 3) e_int)) (e_ix x_ix (ev 3) e_int) (nomark _)) (ss_one (s_ret e_non)) ss_nil)
      (ss_one (s_ret (e_tup (a_cons (e_bin x_sub (ev 1) e_int) (a_cons (ev 2) a_nil)))))) ss_nil)
      (ss_one (s_ret (e_tup (a_cons (e_bin x_sub (ev 1) e_int) (a_cons (ec T.f_law_done T.g_law_done G_law_done hr (a_cons (ev 3) (a_cons (ev 2) (a_cons (e_un x_neg e_int) a_nil)))) a_nil)))))))))) (fun ds G R h => ?_)
  · obtain ⟨ra, a, rs, bs, s, sz, rfl, _⟩ := h; rfl
  · obtain ⟨ra, a, rs, bs, s, sz, rfl, hra, ha, c, pF, pT⟩ := h
    have hl := c.bo.len
    have hle := c.le
    dsimp! only [hra, List.length_map]
    refine ite_d (fun h0 => ?_) (fun h0 => ?_)
    · have hs : s = 0 := by omega
      subst hs
      exact pF rfl
    · have hlt : s - 1 < rs.length := by omega
      have hg := List.getElem?_eq_getElem hlt
      have hok := c.ro _ (List.getElem_mem hlt)
      have e1 : (s : Int) - 1 = ((s - 1 : Nat) : Int) := by omega
      have hs0 : s ≠ 0 := by omega
      have s2 : 2 ≤ sizeLine := by decide
      have fin : ∀ (row : Row), rs[s - 1] = row → row.ok sz → row.plain = true → ∀ {q : DK}, (∀ x G', (2 ≤ sizeLine ∧ R (.tup [.int ((s - 1 : Nat) : Int), x]) G') → q x G') → ∃ R1, S_law_done T [row.d, .ref a, .int (-1)] G R1 ∧ ∀ d G', R1 d G' → q d G' := by
        intro row hrow hrok hpl q hq
        have hm : mayB rs bs s = true := by unfold mayB; rw [if_neg hs0]; rw [hg, hrow]; cases row <;> first | rfl | cases hpl
        have hn : nxB rs bs s = (s - 1, stp (-1) bs row) := by unfold nxB; rw [hg, hrow]; cases row <;> first | rfl | cases hpl
        refine call_nd (post := fun d G' => ∃ q', d = .ref q' ∧ G q' = none ∧ G' q' = some (.lst ((stp (-1) bs row).map .int)) ∧ Grow G G') (fun R h => ⟨row, a, sz, (-1), bs, rfl, .inr rfl, hrok, hpl, c.bo, ha, fun q' G' x y z => h _ _ ⟨q', rfl, x, y, z⟩⟩) ?_
        rintro d G' ⟨q', rfl, x, y, z⟩
        have pp := pT hm q' G'
        rw [hn] at pp
        exact hq _ _ ⟨s2, pp y (.inr x) z⟩
      (simp only [Go]; dsimp! only [hra, e1, at_rows hg])
      rcases kinds3 rs[s - 1] with ⟨x, m, k, hrow⟩ | ⟨x, m, k, hrow⟩ | ⟨w, rest, hd, hw1, hw2, hpl⟩
      · rw [hrow]
        rw [hrow] at hok
        have hx' : x < bs.length := by rw [hl]; exact hok.1
        (dsimp! only [Row.d, sw_all, ha, at_map hx', e1]; repeat (simp only [Go]; dsimp! only [Row.d, sw_all, ha, at_map hx', e1]))
        refine ite_d (fun h1 => ?_) (fun h1 => ?_)
        · exact pF (by unfold mayB; rw [if_neg hs0]; rw [hg, hrow]; simp [h1])
        · have hm : mayB rs bs s = true := by unfold mayB; rw [if_neg hs0]; rw [hg, hrow]; simp [h1]
          have hn : nxB rs bs s = (s - 1, bs) := by unfold nxB; rw [hg, hrow]; rfl
          have pp := pT hm a G
          rw [hn] at pp
          exact ⟨s2, pp ha (.inl rfl) Grow.refl⟩
      · rw [hrow]
        rw [hrow] at hok
        have hx' : x < bs.length := by rw [hl]; exact hok.1
        have hm : mayB rs bs s = true := by unfold mayB; rw [if_neg hs0]; rw [hg, hrow]
        (dsimp! only [Row.d, sw_all, ha, at_map hx', e1]; repeat (simp only [Go]; dsimp! only [Row.d, sw_all, ha, at_map hx', e1]))
        refine ite_d (fun h1 => ?_) (fun h1 => ?_)
        · have hn : nxB rs bs s = (k, bs) := by unfold nxB; rw [hg, hrow]; simp [h1]
          have pp := pT hm a G
          rw [hn] at pp
          exact ⟨s2, pp ha (.inl rfl) Grow.refl⟩
        · have hn : nxB rs bs s = (s - 1, bs) := by unfold nxB; rw [hg, hrow]; simp [h1]
          have pp := pT hm a G
          rw [hn] at pp
          exact ⟨s2, pp ha (.inl rfl) Grow.refl⟩
      · (dsimp! only [hd, hw1, hw2, e1]; repeat (simp only [Go]; dsimp! only [hd, hw1, hw2, e1]))
        rw [← hd]
        exact fin rs[s - 1] rfl hok hpl fun _ _ z => z
theorem ok_law_number {n : Nat} (G_law_draw : Ok P w mg base n T.f_law_draw (S_law_draw T)) : Ok P w mg base (n + 1) T.f_law_number (S_law_number T) := by
  refine def_ok T.f_law_number sc_law_number (fun ds G R h => ?_) (fun cdv A outer s H E hr =>
      (ss_cons (s_set 1 sc_law_number.nd (ec T.f_law_draw T.g_law_draw G_law_draw hr (a_cons (ev 0) (a_cons e_int a_nil))))
      (ss_cons (s_if (t_cmp (x_eq hr) (ev 1) e_int (nomark _)) (ss_one (s_ret (e_bin x_add (e_bin x_mul (ec T.f_law_draw T.g_law_draw G_law_draw hr (a_cons (ev 0) (a_cons (e_bin x_pow e_int e_int) a_nil))) (e_bin x_pow e_int e_int)) (ec T.f_law_draw T.g_law_draw G_law_draw hr (a_cons (ev 0) (a_cons (e_bin x_pow e_int e_int) a_nil)))))) ss_nil)
      (ss_cons (s_if (t_cmp (x_eq hr) (ev 1) e_int (nomark _)) (ss_one (s_ret (e_bin x_sub (e_bin x_sub (e_bin x_pow e_int e_int) e_int) (ec T.f_law_draw T.g_law_draw G_law_draw hr (a_cons (ev 0) (a_cons e_int a_nil)))))) ss_nil)
      (ss_one (s_ret (ec T.f_law_draw T.g_law_draw G_law_draw hr (a_cons (ev 0) (a_cons e_int a_nil))))))))) (fun ds G R h => ?_)
  · obtain ⟨st, rfl, _⟩ := h; rfl
  · obtain ⟨st, rfl, hst, post⟩ := h
    (dsimp! only [id]; repeat (simp only [Go]; dsimp! only [id]))
    refine draw_call hst (by decide) (by decide) fun v1 G1 a1 p1 q1 => ?_
    (dsimp! only [id]; repeat (simp only [Go]; dsimp! only [id]))
    refine ite_d (fun h0 => ?_) (fun h0 => ?_)
    · (dsimp! only [id]; repeat (simp only [Go]; dsimp! only [id]))
      refine ⟨cpow_2 (by decide) (by decide), ?_⟩
      refine draw_call a1.at_ (by decide) (by decide) fun v2 G2 a2 p2 q2 => ?_
      (dsimp! only [id]; repeat (simp only [Go]; dsimp! only [id]))
      refine ⟨cpow_2 (by decide) (by decide), cmul_l (by omega) (by simp only [Int.reduceToNat, Int.reducePow] at q2; omega), cpow_2 (by decide) (by decide), ?_⟩
      refine draw_call a2.at_ (by decide) (by decide) fun v3 G3 a3 p3 q3 => ?_
      (dsimp! only [id]; repeat (simp only [Go]; dsimp! only [id]))
      simp only [Int.reduceToNat, Int.reducePow] at q2 q3 ⊢
      exact post _ _ (a1.trans (a2.trans a3)) (by omega) (by omega)
    · (dsimp! only [id]; repeat (simp only [Go]; dsimp! only [id]))
      refine ite_d (fun h1 => ?_) (fun h1 => ?_)
      · (dsimp! only [id]; repeat (simp only [Go]; dsimp! only [id]))
        refine ⟨cpow_2 (by decide) (by decide), ?_⟩
        refine draw_call a1.at_ (by decide) (by decide) fun v2 G2 a2 p2 q2 => ?_
        (dsimp! only [id]; repeat (simp only [Go]; dsimp! only [id]))
        simp only [Int.reduceToNat, Int.reducePow]
        exact post _ _ (a1.trans a2) (by omega) (by omega)
      · (dsimp! only [id]; repeat (simp only [Go]; dsimp! only [id]))
        refine draw_call a1.at_ (by decide) (by decide) fun v2 G2 a2 p2 q2 => ?_
        exact post _ _ (a1.trans a2) (by omega) (by omega)
theorem ok_law_other {n : Nat} (G_law_draw : Ok P w mg base n T.f_law_draw (S_law_draw T)) : Ok P w mg base (n + 1) T.f_law_other (S_law_other T) := by
  refine def_ok T.f_law_other sc_law_other (fun ds G R h => ?_) (fun cdv A outer s H E hr =>
      (ss_cons (s_set 3 sc_law_other.nd (ec T.f_law_draw T.g_law_draw G_law_draw hr (a_cons (ev 0) (a_cons (e_bin x_sub (ev 1) e_int) a_nil))))
      (ss_one (s_ret (e_bin x_add (ev 3) (e_callTy x_toInt rfl T.b_int (by decide +kernel) (a_cons (e_cmp (x_ge) (ev 3) (ev 2) (nomark _)) a_nil))))))) (fun ds G R h => ?_)
  · obtain ⟨st, sz, x, rfl, _⟩ := h; rfl
  · obtain ⟨st, sz, x, rfl, hst, h2, h1000, hx, post⟩ := h
    (dsimp! only [id]; repeat (simp only [Go]; dsimp! only [id]))
    refine draw_call hst (by omega) (by omega) fun v1 G1 a1 p1 q1 => ?_
    (dsimp! only [id]; repeat (simp only [Go]; dsimp! only [id]))
    by_cases hxv : (x : Int) ≤ v1
    · have e : v1 + (if decide ((x : Int) ≤ v1) = true then (1 : Int) else 0) = ((v1.toNat + 1 : Nat) : Int) := by simp [hxv]; omega
      rw [e]
      exact post _ _ a1 (by omega) (by omega)
    · have e : v1 + (if decide ((x : Int) ≤ v1) = true then (1 : Int) else 0) = ((v1.toNat : Nat) : Int) := by simp [hxv]; omega
      rw [e]
      exact post _ _ a1 (by omega) (by omega)
theorem ok_law_bit {n : Nat} (G_law_draw : Ok P w mg base n T.f_law_draw (S_law_draw T)) : Ok P w mg base (n + 1) T.f_law_bit (S_law_bit T) := by
  refine def_ok T.f_law_bit sc_law_bit (fun ds G R h => ?_) (fun cdv A outer s H E hr =>
      (ss_one (s_ret (e_ix x_ix (e_lst (a_cons (ec T.f_law_draw T.g_law_draw G_law_draw hr (a_cons (ev 0) (a_cons e_int a_nil))) (a_cons (ec T.f_law_draw T.g_law_draw G_law_draw hr (a_cons (ev 0) (a_cons e_int a_nil))) a_nil))) (ec T.f_law_draw T.g_law_draw G_law_draw hr (a_cons (ev 0) (a_cons e_int a_nil))))))) (fun ds G R h => ?_)
  · obtain ⟨st, rfl, _⟩ := h; rfl
  · obtain ⟨st, rfl, hst, post⟩ := h
    (dsimp! only [id]; repeat (simp only [Go]; dsimp! only [id]))
    refine draw_call hst (by decide) (by decide) fun v1 G1 a1 p1 q1 => ?_
    (dsimp! only [id]; repeat (simp only [Go]; dsimp! only [id]))
    refine draw_call a1.at_ (by decide) (by decide) fun v2 G2 a2 p2 q2 => ?_
    (dsimp! only [id]; repeat (simp only [Go]; dsimp! only [id]))
    refine ⟨by decide, fun p hp => ?_⟩
    have a12 := (a1.trans a2).new (o := .lst [.int v1, .int v2]) hp
    refine draw_call a12.at_ (by decide) (by decide) fun v3 G3 a3 p3 q3 => ?_
    have hps : p ≠ st := (a1.trans a2).at_.ne hp
    have h3 : G3 p = some (.lst [.int v1, .int v2]) := a3.kp _ _ hps gup_same
    (dsimp! only [h3]; repeat (simp only [Go]; dsimp! only [h3]))
    have : v3 = 0 ∨ v3 = 1 := by omega
    rcases this with rfl | rfl
    · (dsimp! only [id]; repeat (simp only [Go]; dsimp! only [id]))
      rw [show v1 = ((v1.toNat : Nat) : Int) by omega]
      exact post _ _ (a12.trans a3) (by omega)
    · (dsimp! only [id]; repeat (simp only [Go]; dsimp! only [id]))
      rw [show v2 = ((v2.toNat : Nat) : Int) by omega]
      exact post _ _ (a12.trans a3) (by omega)
theorem ok_law_plain_row {n : Nat} (G_law_draw : Ok P w mg base n T.f_law_draw (S_law_draw T)) (G_law_number : Ok P w mg base n T.f_law_number (S_law_number T)) (G_law_other : Ok P w mg base n T.f_law_other (S_law_other T)) (G_law_bit : Ok P w mg base n T.f_law_bit (S_law_bit T)) : Ok P w mg base (n + 1) T.f_law_plain_row (S_law_plain_row T) := by
  refine def_ok T.f_law_plain_row sc_law_plain_row (fun ds G R h => ?_) (fun cdv A outer s H E hr =>
      (ss_cons (s_set 2 sc_law_plain_row.nd (ec T.f_law_draw T.g_law_draw G_law_draw hr (a_cons (ev 0) (a_cons (ev 1) a_nil))))
      (ss_cons (s_set 3 sc_law_plain_row.nd (ec T.f_law_draw T.g_law_draw G_law_draw hr (a_cons (ev 0) (a_cons e_int a_nil))))
      (ss_cons (s_if (t_w (w_and (t_cmp (x_eq hr) (ev 3) e_int (nomark _)) (w_and1 (t_cmp (x_gt) (ev 1) e_int (nomark _))))) (ss_one (s_ret (e_tup (a_cons e_str (a_cons (ev 2) (a_cons (ec T.f_law_other T.g_law_other G_law_other hr (a_cons (ev 0) (a_cons (ev 1) (a_cons (ev 2) a_nil)))) a_nil)))))) ss_nil)
      (ss_cons (s_if (t_cmp (x_lt) (ev 3) e_int (nomark _)) (ss_cons (s_set 4 sc_law_plain_row.nd (e_lst a_nil))
      (ss_cons (s_for (i_rng1 rfl T.b_range (a_cons (ec T.f_law_draw T.g_law_draw G_law_draw hr (a_cons (ev 0) (a_cons e_int a_nil))) a_nil)) (j_name 5 sc_law_plain_row.nd) (ss_one (s_if (t_cmp (x_gt) (ev 1) e_int (nomark _)) (ss_one (s_expr (e_append (ev 4) (a_cons (e_tup (a_cons (ec T.f_law_other T.g_law_other G_law_other hr (a_cons (ev 0) (a_cons (ev 1) (a_cons (ev 2) a_nil)))) (a_cons (ec T.f_law_bit T.g_law_bit G_law_bit hr (a_cons (ev 0) a_nil)) a_nil))) a_nil)))) ss_nil)))
      (ss_one (s_ret (e_tup (a_cons e_str (a_cons (ev 2) (a_cons (ec T.f_law_bit T.g_law_bit G_law_bit hr (a_cons (ev 0) a_nil)) (a_cons (e_callTy x_toTuple rfl T.b_tuple (by decide +kernel) (a_cons (ev 4) a_nil)) a_nil))))))))) ss_nil)
      (ss_cons (s_set 6 sc_law_plain_row.nd (e_tup (a_cons e_str (a_cons (ec T.f_law_number T.g_law_number G_law_number hr (a_cons (ev 0) a_nil)) a_nil))))
      (ss_cons (s_if (t_w (w_and (t_cmp (x_gt) (ev 1) e_int (nomark _)) (w_and1 (t_cmp (x_eq hr) (ec T.f_law_draw T.g_law_draw G_law_draw hr (a_cons (ev 0) (a_cons e_int a_nil))) e_int (nomark _))))) (ss_one (s_set 6 sc_law_plain_row.nd (e_tup (a_cons e_str (a_cons (ec T.f_law_other T.g_law_other G_law_other hr (a_cons (ev 0) (a_cons (ev 1) (a_cons (ev 2) a_nil)))) a_nil))))) ss_nil)
      (ss_one (s_ret (e_tup (a_cons (e_ix x_ix (e_lst (a_cons e_str (a_cons e_str a_nil))) (e_bin x_mod (ev 3) e_int)) (a_cons (ev 2) (a_cons (ev 6) a_nil))))))))))))) (fun ds G R h => ?_)
  · obtain ⟨st, sz, rfl, _⟩ := h; rfl
  · obtain ⟨st, sz, rfl, hst, h1, h1000, post⟩ := h
    have other : ∀ {G : Gp} {x : Nat} {q : DK}, StAt G st → 2 ≤ sz → x < sz → (∀ (y : Nat) G', Adv st G G' → y < sz → y ≠ x → q (.int (y : Int)) G') → ∃ R, S_law_other T [.ref st, .int (sz : Int), .int (x : Int)] G R ∧ ∀ d G', R d G' → q d G' := fun {G x q} hs h2 hx k =>
      call_nd (post := fun d G' => ∃ y : Nat, d = .int (y : Int) ∧ Adv st G G' ∧ y < sz ∧ y ≠ x) (fun R h => ⟨st, sz, x, rfl, hs, h2, h1000, hx, fun y G' a b c => h _ _ ⟨y, rfl, a, b, c⟩⟩) fun d G' ⟨y, e, a, b, c⟩ => by subst e; exact k y G' a b c
    have bitc : ∀ {G : Gp} {q : DK}, StAt G st → (∀ (j : Nat) G', Adv st G G' → j < 32 → q (.int (j : Int)) G') → ∃ R, S_law_bit T [.ref st] G R ∧ ∀ d G', R d G' → q d G' := fun {G q} hs k =>
      call_nd (post := fun d G' => ∃ y : Nat, d = .int (y : Int) ∧ Adv st G G' ∧ y < 32) (fun R h => ⟨st, rfl, hs, fun y G' a b => h _ _ ⟨y, rfl, a, b⟩⟩) fun d G' ⟨y, e, a, b⟩ => by subst e; exact k y G' a b
    have numc : ∀ {G : Gp} {q : DK}, StAt G st → (∀ (v : Int) G', Adv st G G' → 0 ≤ v → v < 4294967296 → q (.int v) G') → ∃ R, S_law_number T [.ref st] G R ∧ ∀ d G', R d G' → q d G' := fun {G q} hs k =>
      call_nd (post := fun d G' => ∃ v : Int, d = .int v ∧ Adv st G G' ∧ 0 ≤ v ∧ v < 4294967296) (fun R h => ⟨st, rfl, hs, fun y G' a b c => h _ _ ⟨y, rfl, a, b, c⟩⟩) fun d G' ⟨y, e, a, b, c⟩ => by subst e; exact k y G' a b c
    have s3 : 3 ≤ sizeLine := by decide
    have s2 : 2 ≤ sizeLine := by decide
    dsimp! only [id]
    refine draw_call hst (by omega) (by omega) fun v1 G1 a1 p1 q1 => ?_
    obtain ⟨x, rfl⟩ : ∃ x : Nat, v1 = (x : Int) := ⟨v1.toNat, by omega⟩
    have hx : x < sz := by omega
    (simp only [Go]; dsimp! only [id])
    refine draw_call a1.at_ (by decide) (by decide) fun v2 G2 a2 p2 q2 => ?_
    have a12 := a1.trans a2
    have two : ∀ (o : Opd) (G' : Gp) (od : D), od = o.d → Adv st G G' → o.ok sz x → ∀ p, G' p = none → (match atI [D.str "add", D.str "take"] (v2 % 2) with | some d => 3 ≤ sizeLine ∧ R (.tup [d, .int (x : Int), od]) (gup G' p (.lst [.str "add", .str "take"])) | none => False) := by
      intro o G' od eo a ho p hp
      subst eo
      have : v2 % 2 = 0 ∨ v2 % 2 = 1 := by omega
      rcases this with e | e
      · rw [e, atI_0]; exact ⟨s3, post (.add x o) _ (a.new hp) ⟨hx, ho⟩ rfl⟩
      · rw [e, atI_1]; exact ⟨s3, post (.take x o) _ (a.new hp) ⟨hx, ho⟩ rfl⟩
    (simp only [Go]; dsimp! only [id])
    refine ite_and (fun h0 h2 => ?_) (fun h0 => ?_)
    · refine other a12.at_ (by omega) hx fun y G3 a3 hy hne => ?_
      exact ⟨s3, post (.swap x y) _ (a12.trans a3) ⟨hx, hy, hne⟩ rfl⟩
    · (simp only [Go]; dsimp! only [id])
      refine ite_d (fun h4 => ?_) (fun h4 => ?_)
      · refine ⟨by decide, fun p hp => ?_⟩
        have hps : p ≠ st := a12.at_.ne hp
        have hGp : G p = none := a12.none hp hps
        (simp only [Go]; dsimp! only [id])
        refine draw_call (a12.new hp).at_ (by decide) (by decide) fun v3 G3 a3 p3 q3 => ?_
        have a13 := (a12.new (o := .lst []) hp).trans a3
        have h3 : G3 p = some (.lst []) := a3.kp _ _ hps gup_same
        dsimp! only [id]
        refine ⟨⟨by omega, by omega⟩, ?_⟩
        refine forL_ind (fun r σ G' => ∃ (cs : List (Nat × Nat)) (i : Nat) (v : Option D), r.length = i ∧ cs.length + i ≤ 2 ∧ (∀ c ∈ cs, c.1 < sz ∧ c.1 ≠ x ∧ c.2 < 32) ∧ Adv st G G' ∧ G' p = some (.lst (cs.map cd)) ∧ σ = [some (.ref st), some (.int (sz : Int)), some (.int (x : Int)), some (.int v2), some (.ref p), v, none])
          ⟨[], _, none, rfl, by simp [rngD]; omega, by simp, a13, h3, rfl⟩ ?_ ?_
        · rintro σ G' ⟨cs, i, v, _, hlen, hcs, a, hp', rfl⟩
          refine ⟨trivial, ?_⟩
          (simp only [Go]; dsimp! only [id])
          refine bitc a.at_ fun j G4 a4 hj => ?_
          have h4' : G4 p = some (.lst (cs.map cd)) := a4.kp _ _ hps hp'
          dsimp! only [h4']
          exact ⟨by decide, post (.turn x j cs) _ (a.trans a4) ⟨hx, hj, by omega, hcs⟩ rfl⟩
        · rintro z r σ G' ⟨cs, i, v, hr, hlen, hcs, a, hp', rfl⟩ ih
          refine ⟨trivial, ?_⟩
          dsimp! only [hp']
          rw [List.length_cons] at hr
          refine ite_d (fun h5 => ?_) (fun h5 => ?_)
          · refine other a.at_ (by omega) hx fun y G4 a4 hy hne => ?_
            dsimp! only [id]
            refine bitc a4.at_ fun j G5 a5 hj => ?_
            have a15 := a.trans (a4.trans a5)
            have h5' : G5 p = some (.lst (cs.map cd)) := (a4.trans a5).kp _ _ hps hp'
            dsimp! only [h5']
            refine ⟨s2, by rw [List.length_map]; exact Nat.lt_of_le_of_lt (m := 2) (by omega) (by decide), ?_⟩
            refine ih _ _ ⟨cs ++ [(y, j)], r.length, _, rfl, by rw [List.length_append, List.length_singleton]; omega, ?_, a15.own hGp h5' hps, by rw [gup_same, List.map_append]; rfl, rfl⟩
            intro c hc
            rcases List.mem_append.mp hc with q | q
            · exact hcs c q
            · rw [List.mem_singleton] at q; subst q; exact ⟨hy, hne, hj⟩
          · exact ih _ _ ⟨cs, r.length, _, rfl, by omega, hcs, a, hp', rfl⟩
      · (simp only [Go]; dsimp! only [id])
        refine numc a12.at_ fun v G3 a3 hv0 hv1 => ?_
        have a13 := a12.trans a3
        dsimp! only [id]
        refine ⟨s2, ?_⟩
        (simp only [Go]; dsimp! only [id])
        by_cases h2 : 1 < sz
        · have e : decide ((1 : Int) < (sz : Int)) = true := by simp; omega
          dsimp! only [e]
          refine draw_call a13.at_ (by decide) (by decide) fun v4 G4 a4 p4 q4 => ?_
          have a14 := a13.trans a4
          dsimp! only [id]
          refine ite_d (fun h5 => ?_) (fun h5 => ?_)
          · refine other a14.at_ (by omega) hx fun y G5 a5 hy hne => ?_
            dsimp! only [id]
            refine ⟨s2, ?_⟩
            (simp only [Go]; dsimp! only [id])
            exact ⟨s2, fun p hp => ⟨by decide, two (.box y) _ _ rfl (a14.trans a5) ⟨hy, hne⟩ p hp⟩⟩
          · (simp only [Go]; dsimp! only [id])
            exact ⟨s2, fun p hp => ⟨by decide, two (.num v) _ _ rfl a14 ⟨hv0, hv1⟩ p hp⟩⟩
        · have e : decide ((1 : Int) < (sz : Int)) = false := by simp; omega
          dsimp! only [e]
          (simp only [Go]; dsimp! only [id])
          exact ⟨s2, fun p hp => ⟨by decide, two (.num v) _ _ rfl a13 ⟨hv0, hv1⟩ p hp⟩⟩
theorem ok_law_code {n : Nat} (G_law_draw : Ok P w mg base n T.f_law_draw (S_law_draw T)) (G_law_number : Ok P w mg base n T.f_law_number (S_law_number T)) (G_law_plain_row : Ok P w mg base n T.f_law_plain_row (S_law_plain_row T)) : Ok P w mg base (n + 1) T.f_law_code (S_law_code T) := by
  refine def_ok T.f_law_code sc_law_code (fun ds G R h => ?_) (fun cdv A outer s H E hr =>
      (ss_cons (s_set 4 sc_law_code.nd (e_bin x_mul (e_lst (a_cons e_non a_nil)) (ev 2)))
      (ss_cons (s_for (i_rng1 rfl T.b_range (a_cons (ev 2) a_nil)) (j_name 5 sc_law_code.nd) (ss_cons (s_setC 6 sc_law_code.nd (N' := ["_law_k", "_law_at", "_law_rows"]) (ix := [none, some 5, some 4]) (blk (osc := defScope s_law_code) (N := ["_law_state", "_law_size", "_law_many", "_law_jumps", "_law_rows", "_law_at", "_law_free", "_law_k", "_law_x", "_law_n", "_law_turn"]) rfl rfl (by decide +kernel)) (i_rng1 rfl T.b_range (a_cons (ev 2) a_nil)) (fun _ _ _ _ => (j_name 0 (show (["_law_k", "_law_at", "_law_rows"] : List Str).Nodup by decide +kernel))) (fun _ _ _ _ => (ifs_one (t_w (w_and (t_cmp (x_ne hr) (ev 0) (ev 1) (nomark _)) (w_and1 (t_cmp (x_is2) (e_ix x_ix (ev 2) (ev 0)) e_non (nomark _))))))) (fun _ _ _ _ => (ev 0)))
      (ss_one (s_if (t_w (w_and (t_cmp (x_is2) (e_ix x_ix (ev 4) (ev 5)) e_non (nomark _)) (w_and (t_cmp (x_ne hr) (ev 6) (e_lst a_nil) (nomark _)) (w_and1 (t_cmp (x_lt) (ec T.f_law_draw T.g_law_draw G_law_draw hr (a_cons (ev 0) (a_cons e_int a_nil))) (ev 3) (nomark _)))))) (ss_cons (s_set 7 sc_law_code.nd (e_ix x_ix (ev 6) (ec T.f_law_draw T.g_law_draw G_law_draw hr (a_cons (ev 0) (a_cons (e_callB x_len rfl T.b_len (by decide +kernel) (a_cons (ev 6) a_nil)) a_nil)))))
      (ss_cons (s_set 8 sc_law_code.nd (ec T.f_law_draw T.g_law_draw G_law_draw hr (a_cons (ev 0) (a_cons (ev 1) a_nil))))
      (ss_cons (s_set 9 sc_law_code.nd (ec T.f_law_number T.g_law_number G_law_number hr (a_cons (ev 0) a_nil)))
      (ss_cons (s_set 10 sc_law_code.nd (ec T.f_law_draw T.g_law_draw G_law_draw hr (a_cons (ev 0) (a_cons e_int a_nil))))
      (ss_cons (s_asg (e_tup (a_cons (e_ix x_ix (e_lst (a_cons e_str (a_cons e_str (a_cons e_str (a_cons e_str a_nil))))) (ev 10)) (a_cons (ev 8) (a_cons (ev 9) (a_cons (ev 7) a_nil))))) (j_sub (ev 4) (ev 5) x_set))
      (ss_one (s_asg (e_tup (a_cons (e_ix x_ix (e_lst (a_cons e_str (a_cons e_str (a_cons e_str (a_cons e_str a_nil))))) (ev 10)) (a_cons (ev 8) (a_cons (ev 9) (a_cons (ev 5) a_nil))))) (j_sub (ev 4) (ev 7) x_set)))))))) (ss_one (s_if (t_cmp (x_is2) (e_ix x_ix (ev 4) (ev 5)) e_non (nomark _)) (ss_one (s_asg (ec T.f_law_plain_row T.g_law_plain_row G_law_plain_row hr (a_cons (ev 0) (a_cons (ev 1) a_nil))) (j_sub (ev 4) (ev 5) x_set))) ss_nil))))))
      (ss_one (s_ret (e_tup (a_cons (ev 1) (a_cons (ev 4) a_nil)))))))) (fun ds G R h => ?_)
  · obtain ⟨st, sz, m, jm, rfl, _⟩ := h; rfl
  · obtain ⟨st, sz, m, jm, rfl, hst, hs1, hs2, hm, post⟩ := h
    have rowc : ∀ {G : Gp} {q : DK}, StAt G st → (∀ (row : Row) G', Adv st G G' → row.ok sz → row.plain = true → q row.d G') → ∃ R, S_law_plain_row T [.ref st, .int (sz : Int)] G R ∧ ∀ d G', R d G' → q d G' := fun {G q} hs k =>
      call_nd (post := fun d G' => ∃ row : Row, d = row.d ∧ Adv st G G' ∧ row.ok sz ∧ row.plain = true) (fun R h => ⟨st, sz, rfl, hs, hs1, hs2, fun y G' a b c => h _ _ ⟨y, rfl, a, b, c⟩⟩) fun d G' ⟨y, e, a, b, c⟩ => by subst e; exact k y G' a b c
    have numc : ∀ {G : Gp} {q : DK}, StAt G st → (∀ (v : Int) G', Adv st G G' → 0 ≤ v → v < 4294967296 → q (.int v) G') → ∃ R, S_law_number T [.ref st] G R ∧ ∀ d G', R d G' → q d G' := fun {G q} hs k =>
      call_nd (post := fun d G' => ∃ v : Int, d = .int v ∧ Adv st G G' ∧ 0 ≤ v ∧ v < 4294967296) (fun R h => ⟨st, rfl, hs, fun y G' a b c => h _ _ ⟨y, rfl, a, b, c⟩⟩) fun d G' ⟨y, e, a, b, c⟩ => by subst e; exact k y G' a b c
    have s2 : 2 ≤ sizeLine := by decide
    have s3 : 3 ≤ sizeLine := by decide
    have s4 : 4 ≤ sizeLine := by decide
    dsimp! only [id]
    refine ⟨by decide, fun p0 hp0 => ⟨⟨by omega, by omega, ?_⟩, fun ra hra => ?_⟩⟩
    · exact Nat.le_trans (m := 1000) (by omega) (by decide)
    have a0 := (Adv.refl hst).new (o := .lst [.non]) hp0
    have hras : ra ≠ st := a0.at_.ne hra
    have hGra : G ra = none := a0.none hra hras
    have a1 := a0.new (o := .lst (List.replicate m [D.non]).flatten) hra
    (simp only [Go]; dsimp! only [id])
    refine ⟨rng_ok (Nat.le_trans hm (by decide)), ?_⟩
    refine forL_ind (fun r σ G' => ∃ (i k : Nat) (os : List (Option Row)) (v5 v6 v7 v8 v9 v10 : Option D), r = rngD (i : Int) k ∧ i + k = m ∧ os.length = m ∧ PairsO os ∧ (∀ r, some r ∈ os → r.ok sz) ∧ (∀ j, j < i → ∃ r, os[j]? = some (some r)) ∧ Adv st G G' ∧ G' ra = some (.lst (os.map od)) ∧
        σ = [some (.ref st), some (.int (sz : Int)), some (.int (m : Int)), some (.int jm), some (.ref ra), v5, v6, v7, v8, v9, v10])
      ⟨0, m, List.replicate m none, none, none, none, none, none, none, rfl, Nat.zero_add m, by simp, PairsO.empty, fun r h => by (have := (List.mem_replicate.mp h).2; cases this), fun j h => absurd h (Nat.not_lt_zero j), a1, by rw [gup_same, flat_one, List.map_replicate]; rfl, rfl⟩ ?_ ?_
    · rintro σ G' ⟨i, k, os, v5, v6, v7, v8, v9, v10, e, hik, hos, hpo, hok, hall, a, hg, rfl⟩
      have hk : k = 0 := by
        cases k with
        | zero => rfl
        | succ k => rw [rngD_succ] at e; cases e
      subst hk
      obtain ⟨rs, rfl⟩ := all_laid fun j hj => hall j (by omega)
      refine ⟨trivial, ?_⟩
      (simp only [Go]; dsimp! only [id])
      refine ⟨by decide, post ra rs G' a hGra (by rw [hg, od_laid]) (by simpa using hos) (fun r hr => hok r (List.mem_map_of_mem hr)) hpo.pairs⟩
    · rintro z r σ G' ⟨i, k, os, v5, v6, v7, v8, v9, v10, e, hik, hos, hpo, hok, hall, a, hg, rfl⟩ ih
      cases k with
      | zero => cases e
      | succ k =>
        rw [rngD_succ] at e
        cases e
        refine ⟨trivial, ?_⟩
        have hi : i < os.length := hos ▸ i_lt hik
        have hlen : (os.map od).length = m := by rw [List.length_map]; exact hos
        have hat : ∀ j, j < os.length → atI (os.map od) (j : Int) = some (od os[j]!) := fun j hj => by
          refine atI_nat ?_
          rw [List.getElem?_map, List.getElem?_eq_getElem hj, List.getElem!_eq_getElem?_getD, List.getElem?_eq_getElem hj]; rfl
        have hget : ∀ j (hj : j < os.length), os[j]? = some os[j]! := fun j hj => by
          rw [List.getElem!_eq_getElem?_getD, List.getElem?_eq_getElem hj]; rfl
        dsimp! only [id]
        refine ⟨rng_ok (Nat.le_trans hm (by decide)), fun p hp => ?_⟩
        have hps : p ≠ st := a.at_.ne hp
        have hpra : p ≠ ra := gne' hp hg
        refine compL_ind (fun r' σ' G'' => ∃ (i' k' : Nat) (ks : List Int) (v : Option D), r' = rngD (i' : Int) k' ∧ i' + k' = m ∧ ks.length + k' ≤ m ∧ (∀ z ∈ ks, ∃ j : Nat, z = (j : Int) ∧ j ≠ i ∧ os[j]? = some none) ∧ G'' = gup G' p (.lst (ks.map .int)) ∧ σ' = [v, some (.int (i : Int)), some (.ref ra)])
          ⟨0, m, [], none, rfl, Nat.zero_add m, by simp, by simp, rfl, rfl⟩ ?_ ?_
        · rintro σ' G'' ⟨i', k', ks, v, e', hik', hks, hfree, rfl, rfl⟩
          refine ⟨trivial, ?_⟩
          have a2 := a.new (o := .lst (ks.map .int)) hp
          have hg2 : gup G' p (.lst (ks.map .int)) ra = some (.lst (os.map od)) := by rw [gup_ne (Ne.symm hpra)]; exact hg
          have lay : ∀ (G3 : Gp) (w5 : Option D), os[i]? = some none → Adv st G G3 → G3 ra = some (.lst (os.map od)) → ∀ {q : DSt → Gp → Prop}, (∀ (row : Row) (G4 : Gp), row.ok sz → row.plain = true → Adv st G G4 → G4 ra = some (.lst ((os.set i (some row)).map od)) → q [some (.ref st), some (.int (sz : Int)), some (.int (m : Int)), some (.int jm), some (.ref ra), some (.int (i : Int)), w5, v7, v8, v9, v10] G4) →
              dAsg (dCall (S_law_plain_row T) [] (dCons (dVar 0) (dCons (dVar 1) dNil))) (jSub (dVar 4) (dVar 5) xSet) { nx := q, rt := R } [some (.ref st), some (.int (sz : Int)), some (.int (m : Int)), some (.int jm), some (.ref ra), some (.int (i : Int)), w5, v7, v8, v9, v10] G3 := by
            intro G3 w5 hi0 a3 h3 q hq
            dsimp! only [id]
            refine rowc a3.at_ fun row G4 a4 ho hpl => ?_
            have h4 := a4.kp _ _ hras h3
            have hix : ixN (os.map od).length (i : Int) = some i := ixN_of (hlen ▸ i_lt hik)
            dsimp! only [h4, hix]
            refine hq row _ ho hpl ((a3.trans a4).own hGra h4 hras) ?_
            rw [gup_same, List.map_set]
            rfl
          have stays : ∀ (G4 : Gp) (os' : List (Option Row)) (w4 w5 w6 w7 w8 w9 : Option D), os'.length = m → PairsO os' → (∀ r, some r ∈ os' → r.ok sz) → (∀ j, j < i + 1 → ∃ r, os'[j]? = some (some r)) → Adv st G G4 → G4 ra = some (.lst (os'.map od)) → ∃ (i' k' : Nat) (os : List (Option Row)) (v5 v6 v7 v8 v9 v10 : Option D), rngD ((i : Int) + 1) k = rngD (i' : Int) k' ∧ i' + k' = m ∧ os.length = m ∧ PairsO os ∧ (∀ r, some r ∈ os → r.ok sz) ∧ (∀ j, j < i' → ∃ r, os[j]? = some (some r)) ∧ Adv st G G4 ∧ G4 ra = some (.lst (os.map od)) ∧
              [some (.ref st), some (.int (sz : Int)), some (.int (m : Int)), some (.int jm), some (.ref ra), w4, w5, w6, w7, w8, w9] = [some (.ref st), some (.int (sz : Int)), some (.int (m : Int)), some (.int jm), some (.ref ra), v5, v6, v7, v8, v9, v10] :=
            fun G4 os' w4 w5 w6 w7 w8 w9 h1 h2 h3 h4 h5 h6 => ⟨i + 1, k, os', w4, w5, w6, w7, w8, w9, rfl, st_step hik, h1, h2, h3, h4, h5, h6, rfl⟩
          have laid : ∀ (row : Row) (G4 : Gp) (w4 w5 w6 w7 w8 w9 : Option D), os[i]? = some none → row.ok sz → row.plain = true → Adv st G G4 → G4 ra = some (.lst ((os.set i (some row)).map od)) → _ := fun row G4 w4 w5 w6 w7 w8 w9 h0 h1 h2 h3 h4 => stays G4 (os.set i (some row)) w4 w5 w6 w7 w8 w9 (by rw [List.length_set]; exact hos) (hpo.plain h0 h2) (fun r hr => by
            rcases List.mem_or_eq_of_mem_set hr with q | q
            · exact hok r q
            · cases q; exact h1) (fun j hj => by
            rw [List.getElem?_set]
            by_cases e : i = j
            · rw [if_pos e, if_pos hi]; exact ⟨_, rfl⟩
            · rw [if_neg e]; exact hall j (lt_ne hj e)) h3 h4
          (simp only [Go]; dsimp! only [id])
          dsimp! only [hg2, hat i hi]
          cases ho : os[i]! with
          | some r =>
            have fin := stays (gup G' p (.lst (ks.map .int))) os (some (.int (i : Int))) (some (.ref p)) v7 v8 v9 v10 hos hpo hok (fun j hj => by
              by_cases e : j = i
              · subst e; exact ⟨r, by rw [hget j hi, ho]⟩
              · exact hall j (lt_ne' hj e)) a2 hg2
            cases r <;> (dsimp! only [od, Row.d, hg2, hat i hi, ho]; exact ih _ _ fin)
          | none =>
            have hi0 : os[i]? = some none := by rw [hget i hi, ho]
            dsimp! only [od]
            refine ⟨by decide, fun p2 hp2 => ?_⟩
            have hpp2 : p ≠ p2 := fun e => by rw [← e, gup_same] at hp2; cases hp2
            have a3 := a2.new (o := .lst []) hp2
            have hra2 : gup (gup G' p (.lst (ks.map .int))) p2 (.lst []) ra = some (.lst (os.map od)) := by rw [gup_ne (gne hg2 hp2)]; exact hg2
            have hpv : gup (gup G' p (.lst (ks.map .int))) p2 (.lst []) p = some (.lst (ks.map .int)) := by rw [gup_ne hpp2, gup_same]
            refine cmp_ints (ks := ks) (ms := []) (by rw [hpv]; rfl) (by rw [gup_same]; rfl) ?_
            dsimp! only [id]
            refine ite_b (fun hb => ?_) (fun hb => ?_)
            · have hksm : ks.length ≤ m := Nat.le_trans (Nat.le_add_right _ _) hks
              have hk0 : 0 < ks.length := by
                cases ks with
                | nil => cases hb
                | cons z zs => simp
              refine draw_call a3.at_ (by decide) (by decide) fun v G4 a4 l0 h0 => ?_
              have g4 := a4.kp _ _ hras hra2
              have p4 := a4.kp _ _ hps hpv
              have A4 := a3.trans a4
              refine ite_d (fun hv => ?_) (fun hv => ?_)
              · dsimp! only [p4, List.length_map]
                refine draw_call a4.at_ (ipos hk0) (ismall (Nat.le_trans hksm hm)) fun w1 G6 a6 l1 h1 => ?_
                have A6 := A4.trans a6
                have p6 : G6 p = some (.lst (ks.map .int)) := a6.kp _ _ hps p4
                have g6 : G6 ra = some (.lst (os.map od)) := a6.kp _ _ hras g4
                dsimp! only [p6, atI_map l1 h1]
                obtain ⟨l, el, hli, hl0⟩ := hfree _ (List.getElem_mem (show w1.toNat < ks.length from tn_lt l1 h1))
                rw [el]
                have hll := lt_of hl0
                (simp only [Go]; dsimp! only [id])
                refine draw_call a6.at_ (ipos hs1) (ismall hs2) fun u1 G7 a7 m1 k1 => ?_
                obtain ⟨x, rfl⟩ : ∃ x : Nat, u1 = (x : Int) := to_nat m1
                have hxs : x < sz := nlt k1
                (simp only [Go]; dsimp! only [id])
                refine numc a7.at_ fun n0 G8 a8 m2 k2 => ?_
                (simp only [Go]; dsimp! only [id])
                refine draw_call a8.at_ (by decide) (by decide) fun t G9 a9 m3 k3 => ?_
                have A9 := ((A6.trans a7).trans a8).trans a9
                have g9 := a9.kp _ _ hras (a8.kp _ _ hras (a7.kp _ _ hras g6))
                have hix : ∀ os' : List (Option Row), os'.length = m → ixN (os'.map od).length (i : Int) = some i := fun os' h => ixN_of (by rw [List.length_map, h]; exact i_lt hik)
                have hixl : ∀ os' : List (Option Row), os'.length = m → ixN (os'.map od).length (l : Int) = some l := fun os' h => ixN_of (by rw [List.length_map, h, ← hos]; exact hll)
                -- the pair is laid
                have both : ∀ (ra1 rb : Row) (G12 : Gp), (ra1 = .go x n0 l ∧ rb = .come x n0 i) ∨ (ra1 = .come x n0 l ∧ rb = .go x n0 i) → Adv st G G12 → G12 ra = some (.lst (((os.set i (some ra1)).set l (some rb)).map od)) → ∀ w4 w5 w6 w7 w8 w9, _ := fun ra1 rb G12 hab a12 g12 w4 w5 w6 w7 w8 w9 => stays G12 ((os.set i (some ra1)).set l (some rb)) w4 w5 w6 w7 w8 w9 (by rw [List.length_set, List.length_set]; exact hos) (hpo.pair hi0 hl0 hli hab) (fun r hr => by
                  have okp : ra1.ok sz ∧ rb.ok sz := by
                    rcases hab with ⟨rfl, rfl⟩ | ⟨rfl, rfl⟩ <;> exact ⟨⟨hxs, m2, k2⟩, ⟨hxs, m2, k2⟩⟩
                  rcases List.mem_or_eq_of_mem_set hr with q | q
                  · rcases List.mem_or_eq_of_mem_set q with q | q
                    · exact hok r q
                    · cases q; exact okp.1
                  · cases q; exact okp.2) (fun j hj => by
                  rw [List.getElem?_set, List.length_set]
                  by_cases e1 : l = j
                  · rw [if_pos e1, if_pos hll]; exact ⟨_, rfl⟩
                  · rw [if_neg e1, List.getElem?_set]
                    by_cases e2 : i = j
                    · rw [if_pos e2, if_pos hi]; exact ⟨_, rfl⟩
                    · rw [if_neg e2]; exact hall j (lt_ne hj e2)) a12 g12
                have : (atI [D.str "go", .str "go", .str "go", .str "come"] t = some (.str "go") ∧ atI [D.str "come", .str "come", .str "come", .str "go"] t = some (.str "come")) ∨ (atI [D.str "go", .str "go", .str "go", .str "come"] t = some (.str "come") ∧ atI [D.str "come", .str "come", .str "come", .str "go"] t = some (.str "go")) := by
                  have : t = 0 ∨ t = 1 ∨ t = 2 ∨ t = 3 := cases4 m3 k3
                  rcases this with rfl | rfl | rfl | rfl
                  · exact .inl ⟨atI_0, atI_0⟩
                  · exact .inl ⟨atI_1, atI_1⟩
                  · exact .inl ⟨atI_2, atI_2⟩
                  · exact .inr ⟨atI_3, atI_3⟩
                rcases this with ⟨e1, e2⟩ | ⟨e1, e2⟩
                · (simp only [Go]; dsimp! only [g9])
                  refine ⟨s4, fun q1 hq1 => ?_⟩
                  have gq1 : gup G9 q1 (.lst [.str "go", .str "go", .str "go", .str "come"]) ra = some (.lst (os.map od)) := by rw [gup_ne (gne g9 hq1)]; exact g9
                  dsimp! only [gq1, e1, hix os hos]
                  refine ⟨s4, ?_⟩
                  have A10 := (A9.new (o := .lst [.str "go", .str "go", .str "go", .str "come"]) hq1).own (ys := (os.set i (some (Row.go x n0 l))).map od) hGra gq1 hras
                  have e10 : (os.map od).set i (Row.go x n0 l).d = (os.set i (some (Row.go x n0 l))).map od := by rw [List.map_set]; rfl
                  have e10' := e10
                  simp only [Row.d] at e10'
                  rw [e10']
                  (simp only [Go]; dsimp! only [id])
                  refine ⟨s4, fun q2 hq2 => ?_⟩
                  have nq2 : ra ≠ q2 := fun e => by rw [← e, gup_same] at hq2; cases hq2
                  dsimp! only [gup_ne nq2, e2, hixl (os.set i (some (Row.go x n0 l))) (by rw [List.length_set]; exact hos)]
                  refine ⟨s4, ?_⟩
                  have gq2 : gup (gup (gup G9 q1 (.lst [.str "go", .str "go", .str "go", .str "come"])) ra (.lst ((os.set i (some (Row.go x n0 l))).map od))) q2 (.lst [.str "come", .str "come", .str "come", .str "go"]) ra = some (.lst ((os.set i (some (Row.go x n0 l))).map od)) := by rw [gup_ne nq2, gup_same]
                  refine ih _ _ (both (Row.go x n0 l) (Row.come x n0 i) _ (.inl ⟨rfl, rfl⟩) ((A10.new hq2).own hGra gq2 hras) ?_ _ _ _ _ _ _)
                  simp only [gup_same, List.map_set]
                  rfl
                · (simp only [Go]; dsimp! only [g9])
                  refine ⟨s4, fun q1 hq1 => ?_⟩
                  have gq1 : gup G9 q1 (.lst [.str "go", .str "go", .str "go", .str "come"]) ra = some (.lst (os.map od)) := by rw [gup_ne (gne g9 hq1)]; exact g9
                  dsimp! only [gq1, e1, hix os hos]
                  refine ⟨s4, ?_⟩
                  have A10 := (A9.new (o := .lst [.str "go", .str "go", .str "go", .str "come"]) hq1).own (ys := (os.set i (some (Row.come x n0 l))).map od) hGra gq1 hras
                  have e10 : (os.map od).set i (Row.come x n0 l).d = (os.set i (some (Row.come x n0 l))).map od := by rw [List.map_set]; rfl
                  have e10' := e10
                  simp only [Row.d] at e10'
                  rw [e10']
                  (simp only [Go]; dsimp! only [id])
                  refine ⟨s4, fun q2 hq2 => ?_⟩
                  have nq2 : ra ≠ q2 := fun e => by rw [← e, gup_same] at hq2; cases hq2
                  dsimp! only [gup_ne nq2, e2, hixl (os.set i (some (Row.come x n0 l))) (by rw [List.length_set]; exact hos)]
                  refine ⟨s4, ?_⟩
                  have gq2 : gup (gup (gup G9 q1 (.lst [.str "go", .str "go", .str "go", .str "come"])) ra (.lst ((os.set i (some (Row.come x n0 l))).map od))) q2 (.lst [.str "come", .str "come", .str "come", .str "go"]) ra = some (.lst ((os.set i (some (Row.come x n0 l))).map od)) := by rw [gup_ne nq2, gup_same]
                  refine ih _ _ (both (Row.come x n0 l) (Row.go x n0 i) _ (.inr ⟨rfl, rfl⟩) ((A10.new hq2).own hGra gq2 hras) ?_ _ _ _ _ _ _)
                  simp only [gup_same, List.map_set]
                  rfl
              · dsimp! only [g4, hat i hi, ho, od]
                exact lay G4 _ hi0 A4 g4 fun row G5 h1 h2 h3 h4 => ih _ _ (laid row G5 _ _ _ _ _ _ hi0 h1 h2 h3 h4)
            · dsimp! only [hra2, hat i hi, ho, od]
              exact lay _ _ hi0 a3 hra2 fun row G5 h1 h2 h3 h4 => ih _ _ (laid row G5 _ _ _ _ _ _ hi0 h1 h2 h3 h4)
        · rintro z' r' σ' G'' ⟨i', k', ks, v, e', hik', hks, hfree, rfl, rfl⟩ ih'
          cases k' with
          | zero => cases e'
          | succ k' =>
            rw [rngD_succ] at e'
            cases e'
            refine ⟨trivial, ?_⟩
            have hi' : i' < os.length := hos ▸ i_lt hik'
            have hg2 : gup G' p (.lst (ks.map .int)) ra = some (.lst (os.map od)) := by rw [gup_ne (Ne.symm hpra)]; exact hg
            have skip := ih' [some (.int (i' : Int)), some (.int (i : Int)), some (.ref ra)] (gup G' p (.lst (ks.map .int))) ⟨i' + 1, k', ks, _, rfl, st_step hik', le_step hks, hfree, rfl, rfl⟩
            dsimp! only [hg2, hat i' hi']
            have ne1 : (!decide ((i' : Int) = (i : Int))) = decide (i' ≠ i) := by
              by_cases q : i' = i
              · simp [q]
              · have : ¬ (i' : Int) = (i : Int) := nint q
                simp [q, this]
            rw [ne1]
            refine ite_d (fun h0 => ?_) (fun h0 => ?_)
            · cases ho : os[i']! with
              | some r => cases r <;> (dsimp! only [od, Row.d]; exact skip)
              | none =>
                dsimp! only [od]
                refine ⟨by rw [List.length_map]; exact Nat.lt_of_le_of_lt (m := 1000) (Nat.le_trans (le_lt hks) hm) (by decide), ?_⟩
                refine ih' _ _ ⟨i' + 1, k', ks ++ [(i' : Int)], _, rfl, st_step hik', by rw [List.length_append, List.length_singleton]; exact le_step1 hks, fun z hz => ?_, by rw [gup_gup, List.map_append]; rfl, rfl⟩
                rcases List.mem_append.mp hz with q | q
                · exact hfree z q
                · rw [List.mem_singleton] at q; subst q
                  exact ⟨i', rfl, h0, by rw [hget i' hi', ho]⟩
            · exact skip
theorem ok_law_boxes {n : Nat} (G_law_number : Ok P w mg base n T.f_law_number (S_law_number T)) : Ok P w mg base (n + 1) T.f_law_boxes (S_law_boxes T) := by
  refine def_ok T.f_law_boxes sc_law_boxes (fun ds G R h => ?_) (fun cdv A outer s H E hr =>
      (ss_one (s_ret (e_comp (N' := ["_law_k", "_law_state"]) (ix := [none, some 0]) (blk (osc := defScope s_law_boxes) (N := ["_law_state", "_law_size"]) rfl rfl (by decide +kernel)) (i_rng1 rfl T.b_range (a_cons (ev 1) a_nil)) (fun _ _ _ _ => (j_name 0 (show (["_law_k", "_law_state"] : List Str).Nodup by decide +kernel))) (fun _ _ _ _ => ifs_nil) (fun _ _ _ _ => (ec T.f_law_number T.g_law_number G_law_number hr (a_cons (ev 1) a_nil))))))) (fun ds G R h => ?_)
  · obtain ⟨st, sz, rfl, _⟩ := h; rfl
  · obtain ⟨st, sz, rfl, hst, h1000, post⟩ := h
    have numc : ∀ {G : Gp} {q : DK}, StAt G st → (∀ (v : Int) G', Adv st G G' → 0 ≤ v → v < 4294967296 → q (.int v) G') → ∃ R, S_law_number T [.ref st] G R ∧ ∀ d G', R d G' → q d G' := fun {G q} hs k =>
      call_nd (post := fun d G' => ∃ v : Int, d = .int v ∧ Adv st G G' ∧ 0 ≤ v ∧ v < 4294967296) (fun R h => ⟨st, rfl, hs, fun y G' a b c => h _ _ ⟨y, rfl, a, b, c⟩⟩) fun d G' ⟨y, e, a, b, c⟩ => by subst e; exact k y G' a b c
    dsimp! only [id]
    refine ⟨⟨by omega, by omega⟩, fun p hp => ?_⟩
    have hps := hst.ne hp
    refine compL_ind (fun r σ G' => ∃ (bs : List Int) (v : Option D), bs.length + r.length = sz ∧ (∀ v ∈ bs, 0 ≤ v ∧ v < 4294967296) ∧ Adv st G G' ∧ G' p = some (.lst (bs.map .int)) ∧ σ = [v, some (.ref st)])
      ⟨[], none, by simp [rngD], by simp, (Adv.refl hst).new hp, gup_same, rfl⟩ ?_ ?_
    · rintro σ G' ⟨bs, v, hl, hb, a, hp', rfl⟩
      exact ⟨trivial, post p bs G' a hp hp' ⟨by simpa using hl, hb⟩⟩
    · rintro z r σ G' ⟨bs, v, hl, hb, a, hp', rfl⟩ ih
      refine ⟨trivial, ?_⟩
      dsimp! only [id]
      refine numc a.at_ fun v G1 a1 h0 h1 => ?_
      have hp1 : G1 p = some (.lst (bs.map .int)) := a1.kp _ _ hps hp'
      dsimp! only [hp1]
      rw [List.length_cons] at hl
      refine ⟨by rw [List.length_map]; exact Nat.lt_of_le_of_lt (m := 1000) (by omega) (by decide), ?_⟩
      refine ih _ _ ⟨bs ++ [v], _, by rw [List.length_append, List.length_singleton]; omega, ?_, (a.trans a1).own hp hp1 hps, by rw [gup_same, List.map_append]; rfl, rfl⟩
      intro u hu
      rcases List.mem_append.mp hu with q | q
      · exact hb u q
      · rw [List.mem_singleton] at q; subst q; exact ⟨h0, h1⟩
theorem ok_word_of {n : Nat} : Ok P w mg base (n + 1) T.f_word_of (S_word_of T) := by
  refine def_ok T.f_word_of sc_word_of (fun ds G R h => ?_) (fun cdv A outer s H E hr =>
      (ss_cons (s_if (t_val (ev 0)) (ss_one (s_ret (ev 1))) ss_nil)
      (ss_one (s_ret (e_if (t_val (ev 2)) e_str e_str))))) (fun ds G R h => ?_)
  · obtain ⟨a, c, w, rfl, _⟩ := h; rfl
  · obtain ⟨a, c, w, rfl, post⟩ := h
    cases a <;> cases c <;> ((dsimp! only [id]; repeat (simp only [Go]; dsimp! only [id])); exact post)
theorem ok_run_forth {n : Nat} (G_Ride_init : Ok P w mg base n T.f_Ride_init (S_Ride_init T)) (G_Ride_place : Ok P w mg base (n + 1) T.f_Ride_place (S_Ride_place T)) (G_Ride_boxes : Ok P w mg base (n + 1) T.f_Ride_boxes (S_Ride_boxes T)) (G_Ride_forth : Ok P w mg base (n + 1) T.f_Ride_forth (S_Ride_forth T)) (G_Ride_at_end : Ok P w mg base (n + 1) T.f_Ride_at_end (S_Ride_at_end T)) (G_Ride_may_forth : Ok P w mg base (n + 1) T.f_Ride_may_forth (S_Ride_may_forth T)) (G_word_of : Ok P w mg base (n + 1) T.f_word_of (S_word_of T)) : Ok P w mg base (n + 1 + 1) T.f_run_forth (S_run_forth T) := by
  refine def_ok T.f_run_forth sc_run_forth (fun ds G R h => ?_) (fun cdv A outer s H E hr =>
      (ss_cons (s_set 3 sc_run_forth.nd (emkd T.mk_Ride T.c_Ride.m T.d_Ride_init G_Ride_init hr (a_cons (ev 0) (a_cons (ev 1) a_nil))))
      (ss_cons (s_set 4 sc_run_forth.nd e_int)
      (ss_cons (s_while (t_w (w_and (t_cmp (x_lt) (ev 4) (ev 2) (nomark _)) (w_and1 (t_val (em0 T.c_Ride.cl T.f_Ride_forth T.m_Ride_forth G_Ride_forth hr (ev 3)))))) (ss_one (s_aug 4 sc_run_forth.nd e_int x_iadd)))
      (ss_cons (s_set 5 sc_run_forth.nd (ec T.f_word_of T.g_word_of G_word_of hr (a_cons (em0 T.c_Ride.cl T.f_Ride_at_end T.m_Ride_at_end G_Ride_at_end hr (ev 3)) (a_cons e_str (a_cons (em0 T.c_Ride.cl T.f_Ride_may_forth T.m_Ride_may_forth G_Ride_may_forth hr (ev 3)) a_nil)))))
      (ss_one (s_ret (e_tup (a_cons (ev 5) (a_cons (em0 T.c_Ride.cl T.f_Ride_place T.m_Ride_place G_Ride_place hr (ev 3)) (a_cons (em0 T.c_Ride.cl T.f_Ride_boxes T.m_Ride_boxes G_Ride_boxes hr (ev 3)) (a_cons (ev 4) a_nil)))))))))))) (fun ds G R h => ?_)
  · obtain ⟨c0, rc, bx, rs, bs, most, sz, rfl, _⟩ := h; rfl
  · obtain ⟨c0, rc, bx, rs, bs, most, sz, rfl, hrc, hbx, c, hp, post⟩ := h
    dsimp! only [id]
    intro p hp0
    refine c_make T (s := 0) hp0 hrc hbx fun ra ha G1 nra nha A1 g1 => ?_
    (simp only [Go]; dsimp! only [id])
    (simp only [Go]; dsimp! only [id])
    refine while_ind (fun m σ G' => ∃ (k s : Nat) (cs : List Int), m = most - k ∧ RnI true rs most 0 bs k s cs ∧ Cde sz rs cs s ∧ RideAt T.c_Ride.C G' p ra ha rs cs s ∧ Kept p ha G1 G' ∧ σ = [some (.tup [c0, .ref rc]), some (.ref bx), some (.int (most : Int)), some (.ref p), some (.int (k : Int)), none]) (m := most)
      ⟨0, 0, bs, rfl, RnI.init, c, A1, Kept.refl, rfl⟩ ?_
    rintro m σ G' N ⟨k, s, cs, em, hR, cc, A, kp, rfl⟩ ih
    -- where it stops
    have stop : ∀ (e : rn true rs most 0 bs = (k, s, cs)), Go ((dSeq (dAsg (dCall (S_word_of T) [] (dCons (dMeth T.c_Ride.C "at_end" (S_Ride_at_end T) [] (dVar 3) dNil) (dCons (dC (.str "end")) (dCons (dMeth T.c_Ride.C "may_forth" (S_Ride_may_forth T) [] (dVar 3) dNil) dNil)))) (jName 5)) (dRet (dTup (dCons (dVar 5) (dCons (dMeth T.c_Ride.C "place" (S_Ride_place T) [] (dVar 3) dNil) (dCons (dMeth T.c_Ride.C "boxes" (S_Ride_boxes T) [] (dVar 3) dNil) (dCons (dVar 4) dNil))))))) { nx := fun _ G' => R .non G', rt := R }) [some (.tup [c0, .ref rc]), some (.ref bx), some (.int (most : Int)), some (.ref p), some (.int (k : Int)), none] G' := by
      intro e
      (simp only [Go]; dsimp! only [A.ob, fl_all])
      refine call_det (v := .bl (decide (s = rs.length))) (G1 := G') (fun R h => ⟨p, ra, ha, rs, cs, s, rfl, A, h⟩) ?_
      dsimp! only [A.ob, fl_all]
      refine call_det (v := .bl (mayF rs cs s)) (G1 := G') (fun R h => ⟨p, ra, ha, rs, cs, s, sz, rfl, A, cc, h⟩) ?_
      dsimp! only [id]
      refine call_det (v := .str (wrd true rs cs s)) (G1 := G') (fun R h => ⟨_, _, _, rfl, by
        have ew : (if decide (s = rs.length) = true then ("end" : Str) else if mayF rs cs s = true then "tired" else "torn") = wrd true rs cs s := by
          unfold wrd
          by_cases h0 : s = rs.length
          · rw [decide_eq_true h0, if_pos rfl]
            exact (if_pos (show s = (if true = true then rs.length else 0) from h0)).symm
          · rw [decide_eq_false h0, if_neg Bool.false_ne_true]
            exact (if_neg (show ¬ s = (if true = true then rs.length else 0) from h0)).symm
        rw [ew]; exact h⟩) ?_
      (simp only [Go]; dsimp! only [A.ob, fl_all])
      refine call_det (v := .int (s : Int)) (G1 := G') (fun R h => ⟨p, ra, ha, rs, cs, s, rfl, A, h⟩) ?_
      dsimp! only [A.ob, fl_all]
      refine call_nd (post := fun d G2 => ∃ q1, d = .ref q1 ∧ G' q1 = none ∧ G2 = gup G' q1 (.lst (cs.map .int))) (fun R h => ⟨p, ra, ha, rs, cs, s, rfl, A, fun q1 e => h _ _ ⟨q1, rfl, e, rfl⟩⟩) ?_
      rintro d G2 ⟨q1, rfl, hq1, rfl⟩
      dsimp! only [id]
      refine ⟨by decide, ?_⟩
      have gk : ∀ b o, G b = some o → G' b = some o := fun b o e => kp.kp b o (gne e hp0) (gne e nha) (g1.kp _ _ e)
      have hGq : G q1 = none := by
        cases ez : G q1 with
        | none => rfl
        | some o => rw [gk q1 o ez] at hq1; cases hq1
      have := post q1 (gup G' q1 (.lst (cs.map .int))) hGq (by rw [e]; exact gup_same) ⟨fun b o eb => by rw [gup_ne (gne (gk b o eb) hq1)]; exact gk b o eb⟩
      rw [e] at this
      exact this
    dsimp! only [id]
    refine ite_d (fun hk => ?_) (fun hk => stop (hR.stop (.inl fun z => hk (by omega))))
    dsimp! only [A.ob, fl_all]
    refine call_nd (post := fun d G2 => (mayX true rs cs s = false ∧ d = .bl false ∧ G2 = G') ∨ (mayX true rs cs s = true ∧ d = .bl true ∧ RideAt T.c_Ride.C G2 p ra ha rs (nxX true rs cs s).2 (nxX true rs cs s).1 ∧ ∀ b, b ≠ p → b ≠ ha → G2 b = G' b))
      (fun R h => ⟨p, ra, ha, rs, cs, s, sz, rfl, A, cc, fun G2 h0 h1 => by
        cases hm : mayF rs cs s with
        | false => exact h _ _ (.inl ⟨hm, rfl, h0 hm⟩)
        | true => exact h _ _ (.inr ⟨hm, rfl, (h1 hm).1, (h1 hm).2⟩)⟩) ?_
    rintro d G2 (⟨hm, rfl, rfl⟩ | ⟨hm, rfl, A2, e2⟩)
    · dsimp! only [id]
      exact stop (hR.stop (.inr hm))
    · dsimp! only [id]
      have hk' : k < most := by omega
      exact ih _ _ (most - (k + 1)) (by omega) ⟨k + 1, _, _, rfl, hR.step hk' hm, (undoX hp cc hm).1, A2, kp.eqs e2, rfl⟩
theorem ok_run_back {n : Nat} (G_Ride_init : Ok P w mg base n T.f_Ride_init (S_Ride_init T)) (G_Ride_place : Ok P w mg base (n + 1) T.f_Ride_place (S_Ride_place T)) (G_Ride_boxes : Ok P w mg base (n + 1) T.f_Ride_boxes (S_Ride_boxes T)) (G_Ride_back : Ok P w mg base (n + 1) T.f_Ride_back (S_Ride_back T)) (G_Ride_at_begin : Ok P w mg base (n + 1) T.f_Ride_at_begin (S_Ride_at_begin T)) (G_Ride_may_back : Ok P w mg base (n + 1) T.f_Ride_may_back (S_Ride_may_back T)) (G_word_of : Ok P w mg base (n + 1) T.f_word_of (S_word_of T)) : Ok P w mg base (n + 1 + 1) T.f_run_back (S_run_back T) := by
  refine def_ok T.f_run_back sc_run_back (fun ds G R h => ?_) (fun cdv A outer s H E hr =>
      (ss_cons (s_set 4 sc_run_back.nd (emk T.mk_Ride T.c_Ride.m G_Ride_init hr (a_cons (ev 0) (a_cons (ev 1) (a_cons (ev 2) a_nil)))))
      (ss_cons (s_set 5 sc_run_back.nd e_int)
      (ss_cons (s_while (t_w (w_and (t_cmp (x_lt) (ev 5) (ev 3) (nomark _)) (w_and1 (t_val (em0 T.c_Ride.cl T.f_Ride_back T.m_Ride_back G_Ride_back hr (ev 4)))))) (ss_one (s_aug 5 sc_run_back.nd e_int x_iadd)))
      (ss_cons (s_set 6 sc_run_back.nd (ec T.f_word_of T.g_word_of G_word_of hr (a_cons (em0 T.c_Ride.cl T.f_Ride_at_begin T.m_Ride_at_begin G_Ride_at_begin hr (ev 4)) (a_cons e_str (a_cons (em0 T.c_Ride.cl T.f_Ride_may_back T.m_Ride_may_back G_Ride_may_back hr (ev 4)) a_nil)))))
      (ss_one (s_ret (e_tup (a_cons (ev 6) (a_cons (em0 T.c_Ride.cl T.f_Ride_place T.m_Ride_place G_Ride_place hr (ev 4)) (a_cons (em0 T.c_Ride.cl T.f_Ride_boxes T.m_Ride_boxes G_Ride_boxes hr (ev 4)) (a_cons (ev 5) a_nil)))))))))))) (fun ds G R h => ?_)
  · obtain ⟨c0, rc, bx, rs, bs, s0, most, sz, rfl, _⟩ := h; rfl
  · obtain ⟨c0, rc, bx, rs, bs, s0, most, sz, rfl, hrc, hbx, c, hp, post⟩ := h
    dsimp! only [id]
    intro p hp0
    refine c_make T (s := s0) hp0 hrc hbx fun ra ha G1 nra nha A1 g1 => ?_
    (simp only [Go]; dsimp! only [id])
    (simp only [Go]; dsimp! only [id])
    refine while_ind (fun m σ G' => ∃ (k s : Nat) (cs : List Int), m = most - k ∧ RnI false rs most s0 bs k s cs ∧ Cde sz rs cs s ∧ RideAt T.c_Ride.C G' p ra ha rs cs s ∧ Kept p ha G1 G' ∧ σ = [some (.tup [c0, .ref rc]), some (.ref bx), some (.int (s0 : Int)), some (.int (most : Int)), some (.ref p), some (.int (k : Int)), none]) (m := most)
      ⟨0, s0, bs, rfl, RnI.init, c, A1, Kept.refl, rfl⟩ ?_
    rintro m σ G' N ⟨k, s, cs, em, hR, cc, A, kp, rfl⟩ ih
    -- where it stops
    have stop : ∀ (e : rn false rs most s0 bs = (k, s, cs)), Go ((dSeq (dAsg (dCall (S_word_of T) [] (dCons (dMeth T.c_Ride.C "at_begin" (S_Ride_at_begin T) [] (dVar 4) dNil) (dCons (dC (.str "begin")) (dCons (dMeth T.c_Ride.C "may_back" (S_Ride_may_back T) [] (dVar 4) dNil) dNil)))) (jName 6)) (dRet (dTup (dCons (dVar 6) (dCons (dMeth T.c_Ride.C "place" (S_Ride_place T) [] (dVar 4) dNil) (dCons (dMeth T.c_Ride.C "boxes" (S_Ride_boxes T) [] (dVar 4) dNil) (dCons (dVar 5) dNil))))))) { nx := fun _ G' => R .non G', rt := R }) [some (.tup [c0, .ref rc]), some (.ref bx), some (.int (s0 : Int)), some (.int (most : Int)), some (.ref p), some (.int (k : Int)), none] G' := by
      intro e
      (simp only [Go]; dsimp! only [A.ob, fl_all])
      refine call_det (v := .bl (decide (s = 0))) (G1 := G') (fun R h => ⟨p, ra, ha, rs, cs, s, rfl, A, h⟩) ?_
      dsimp! only [A.ob, fl_all]
      refine call_det (v := .bl (mayB rs cs s)) (G1 := G') (fun R h => ⟨p, ra, ha, rs, cs, s, sz, rfl, A, cc, h⟩) ?_
      dsimp! only [id]
      refine call_det (v := .str (wrd false rs cs s)) (G1 := G') (fun R h => ⟨_, _, _, rfl, by
        have ew : (if decide (s = 0) = true then ("begin" : Str) else if mayB rs cs s = true then "tired" else "torn") = wrd false rs cs s := by
          unfold wrd
          by_cases h0 : s = 0
          · rw [decide_eq_true h0, if_pos rfl]
            exact (if_pos (show s = (if false = true then rs.length else 0) from h0)).symm
          · rw [decide_eq_false h0, if_neg Bool.false_ne_true]
            exact (if_neg (show ¬ s = (if false = true then rs.length else 0) from h0)).symm
        rw [ew]; exact h⟩) ?_
      (simp only [Go]; dsimp! only [A.ob, fl_all])
      refine call_det (v := .int (s : Int)) (G1 := G') (fun R h => ⟨p, ra, ha, rs, cs, s, rfl, A, h⟩) ?_
      dsimp! only [A.ob, fl_all]
      refine call_nd (post := fun d G2 => ∃ q1, d = .ref q1 ∧ G' q1 = none ∧ G2 = gup G' q1 (.lst (cs.map .int))) (fun R h => ⟨p, ra, ha, rs, cs, s, rfl, A, fun q1 e => h _ _ ⟨q1, rfl, e, rfl⟩⟩) ?_
      rintro d G2 ⟨q1, rfl, hq1, rfl⟩
      dsimp! only [id]
      refine ⟨by decide, ?_⟩
      have gk : ∀ b o, G b = some o → G' b = some o := fun b o e => kp.kp b o (gne e hp0) (gne e nha) (g1.kp _ _ e)
      have hGq : G q1 = none := by
        cases ez : G q1 with
        | none => rfl
        | some o => rw [gk q1 o ez] at hq1; cases hq1
      have := post q1 (gup G' q1 (.lst (cs.map .int))) hGq (by rw [e]; exact gup_same) ⟨fun b o eb => by rw [gup_ne (gne (gk b o eb) hq1)]; exact gk b o eb⟩
      rw [e] at this
      exact this
    dsimp! only [id]
    refine ite_d (fun hk => ?_) (fun hk => stop (hR.stop (.inl fun z => hk (by omega))))
    dsimp! only [A.ob, fl_all]
    refine call_nd (post := fun d G2 => (mayX false rs cs s = false ∧ d = .bl false ∧ G2 = G') ∨ (mayX false rs cs s = true ∧ d = .bl true ∧ RideAt T.c_Ride.C G2 p ra ha rs (nxX false rs cs s).2 (nxX false rs cs s).1 ∧ ∀ b, b ≠ p → b ≠ ha → G2 b = G' b))
      (fun R h => ⟨p, ra, ha, rs, cs, s, sz, rfl, A, cc, fun G2 h0 h1 => by
        cases hm : mayB rs cs s with
        | false => exact h _ _ (.inl ⟨hm, rfl, h0 hm⟩)
        | true => exact h _ _ (.inr ⟨hm, rfl, (h1 hm).1, (h1 hm).2⟩)⟩) ?_
    rintro d G2 (⟨hm, rfl, rfl⟩ | ⟨hm, rfl, A2, e2⟩)
    · dsimp! only [id]
      exact stop (hR.stop (.inr hm))
    · dsimp! only [id]
      have hk' : k < most := by omega
      exact ih _ _ (most - (k + 1)) (by omega) ⟨k + 1, _, _, rfl, hR.step hk' hm, (undoX hp cc hm).1, A2, kp.eqs e2, rfl⟩
theorem ok_law_run {n : Nat} (G_law_forth : Ok P w mg base n T.f_law_forth (S_law_forth T)) (G_law_back : Ok P w mg base n T.f_law_back (S_law_back T)) : Ok P w mg base (n + 1) T.f_law_run (S_law_run T) := by
  refine def_ok T.f_law_run sc_law_run (fun ds G R h => ?_) (fun cdv A outer s H E hr =>
      (ss_cons (s_set 5 sc_law_run.nd (e_ix x_ix (e_lst (a_cons (e_fun T.g_law_back) (a_cons (e_fun T.g_law_forth) a_nil))) (e_callTy x_toInt rfl T.b_int (by decide +kernel) (a_cons (ev 1) a_nil))))
      (ss_cons (s_set 6 sc_law_run.nd e_int)
      (ss_cons (s_set 7 sc_law_run.nd (ec2 T.f_law_back T.f_law_forth G_law_back G_law_forth hr (ev 5) (a_cons (ev 0) (a_cons (ev 2) (a_cons (ev 3) a_nil)))))
      (ss_cons (s_while (t_w (w_and (t_cmp (x_isNot2) (ev 7) e_non (nomark _)) (w_and1 (t_cmp (x_lt) (ev 6) (ev 4) (nomark _))))) (ss_cons (s_asg (ev 7) (j_seq (n := 2) rfl (js_cons (j_name 2 sc_law_run.nd) (js_cons (j_name 3 sc_law_run.nd) js_nil))))
      (ss_cons (s_set 6 sc_law_run.nd (e_bin x_add (ev 6) e_int))
      (ss_one (s_set 7 sc_law_run.nd (ec2 T.f_law_back T.f_law_forth G_law_back G_law_forth hr (ev 5) (a_cons (ev 0) (a_cons (ev 2) (a_cons (ev 3) a_nil)))))))))
      (ss_cons (s_set 8 sc_law_run.nd e_str)
      (ss_cons (s_if (t_cmp (x_eq hr) (ev 2) (e_ix x_ix (e_lst (a_cons e_int (a_cons (e_callB x_len rfl T.b_len (by decide +kernel) (a_cons (ev 0) a_nil)) a_nil))) (e_callTy x_toInt rfl T.b_int (by decide +kernel) (a_cons (ev 1) a_nil))) (nomark _)) (ss_one (s_set 8 sc_law_run.nd (e_ix x_ix (e_lst (a_cons e_str (a_cons e_str a_nil))) (e_callTy x_toInt rfl T.b_int (by decide +kernel) (a_cons (ev 1) a_nil))))) (ss_one (s_if (t_cmp (x_is2) (ev 7) e_non (nomark _)) (ss_one (s_set 8 sc_law_run.nd e_str)) ss_nil)))
      (ss_one (s_ret (e_tup (a_cons (ev 8) (a_cons (ev 2) (a_cons (ev 3) (a_cons (ev 6) a_nil)))))))))))))) (fun ds G R h => ?_)
  · obtain ⟨fw, rc, bx, rs, bs, s0, most, sz, rfl, _⟩ := h; rfl
  · obtain ⟨fw, rc, bx, rs, bs, s0, most, sz, rfl, hrc, hbx, c, hp, post⟩ := h
    -- a step by the function that is held
    have step : ∀ {G1 : Gp} {q : DK} {cs : List Int} {s : Nat} {b : Addr} {σ : DSt} (f : Addr), f = (if fw = true then T.f_law_forth.a else T.f_law_back.a) → σ[5]? = some (some (.ref f)) → σ[0]? = some (some (.ref rc)) → σ[2]? = some (some (.int (s : Int))) → σ[3]? = some (some (.ref b)) →
        G1 rc = some (.lst (rs.map Row.d)) → G1 b = some (.lst (cs.map .int)) → Cde sz rs cs s → (mayX fw rs cs s = false → q .non G1) → (mayX fw rs cs s = true → ∀ q' G', G' q' = some (.lst ((nxX fw rs cs s).2.map .int)) → (q' = b ∨ G1 q' = none) → Grow G1 G' → q (.tup [.int ((nxX fw rs cs s).1 : Int), .ref q']) G') →
        dCallV 5 T.f_law_back.a T.f_law_forth.a (S_law_back T) (S_law_forth T) (dCons (dVar 0) (dCons (dVar 2) (dCons (dVar 3) dNil))) σ G1 q := by
      intro G1 q cs s b σ f hf h5 h0 h2 h3 hr hb cc k0 k1
      unfold dCallV
      rw [h5]
      cases fw with
      | true =>
        refine .inr ⟨hf, ?_⟩
        simp only [dCall, dCons, dVar, dNil, h0, h2, h3, List.append_nil]
        exact c_forth2 T hr hb cc k0 k1
      | false =>
        refine .inl ⟨hf, ?_⟩
        simp only [dCall, dCons, dVar, dNil, h0, h2, h3, List.append_nil]
        exact c_back2 T hr hb cc k0 k1
    have sel : atI [D.ref T.f_law_back.a, .ref T.f_law_forth.a] (if fw = true then (1 : Int) else 0) = some (.ref (if fw = true then T.f_law_forth.a else T.f_law_back.a)) := by
      cases fw
      · exact atI_0
      · exact atI_1
    have stop : ∀ (k s : Nat) (cs : List Int) (b : Addr) (due : D) (G' : Gp) (f : D), rn fw rs most s0 bs = (k, s, cs) → G' b = some (.lst (cs.map .int)) → (b = bx ∨ G b = none) → Grow G G' → ((mayX fw rs cs s = false ∧ due = .non) ∨ (mayX fw rs cs s = true ∧ ∃ xs, due = .tup xs)) →
        Go (dSeq (dAsg (dC (.str "tired")) (jName 8)) (dSeq (dIfS (dB (dOp (xEqB false) (dVar 2) (dOp xIx (dLst (dCons (dC (.int 0)) (dCons (dCB xLen (dCons (dVar 0) dNil)) dNil))) (dCB xToInt (dCons (dVar 1) dNil)))))
          (dAsg (dOp xIx (dLst (dCons (dC (.str "begin")) (dCons (dC (.str "end")) dNil))) (dCB xToInt (dCons (dVar 1) dNil))) (jName 8)) (dIfS (dB (dOp xIs2 (dVar 7) (dC .non))) (dAsg (dC (.str "torn")) (jName 8)) dNext))
          (dRet (dTup (dCons (dVar 8) (dCons (dVar 2) (dCons (dVar 3) (dCons (dVar 6) dNil))))))) { nx := fun _ G' => R .non G', rt := R })
        [some (.ref rc), some (.bl fw), some (.int (s : Int)), some (.ref b), some (.int (most : Int)), some f, some (.int (k : Int)), some due, none] G' := by
      intro k s cs b due G' f e hb hbo g hdue
      have fin : ∀ (G2 : Gp), Grow G' G2 → R (.tup [.str (wrd fw rs cs s), .int (s : Int), .ref b, .int (k : Int)]) G2 := fun G2 g2 => by
        have := post b G2 hbo (by rw [e]; exact g2.kp _ _ hb) (g.trans g2)
        rw [e] at this
        exact this
      have sel2 : atI [D.int 0, .int (rs.length : Int)] (if fw = true then (1 : Int) else 0) = some (.int ((if fw = true then rs.length else 0 : Nat) : Int)) := by
        cases fw
        · exact atI_0
        · exact atI_1
      have sel3 : atI [D.str "begin", .str "end"] (if fw = true then (1 : Int) else 0) = some (.str (if fw = true then "end" else "begin")) := by
        cases fw
        · exact atI_0
        · exact atI_1
      (simp only [Go]; dsimp! only [id])
      (simp only [Go]; dsimp! only [g.kp _ _ hrc, List.length_map])
      refine ⟨by decide, fun p1 hp1 => ?_⟩
      have g1 : ∀ {o : DO}, Grow G' (gup G' p1 o) := Grow.refl.new hp1
      dsimp! only [sel2]
      refine ite_d (fun h0 => ?_) (fun h0 => ?_)
      · refine ⟨by decide, fun p2 hp2 => ?_⟩
        dsimp! only [sel3]
        have ew : wrd fw rs cs s = (if fw = true then ("end" : Str) else "begin") := by unfold wrd; exact if_pos (by omega)
        (simp only [Go]; dsimp! only [id])
        have := fin _ ((g1 (o := .lst [.int 0, .int (rs.length : Int)])).new (o := .lst [.str "begin", .str "end"]) hp2)
        rw [ew] at this
        exact ⟨by decide, this⟩
      · have hne : ¬ s = (if fw = true then rs.length else 0) := fun z => h0 (by omega)
        rcases hdue with ⟨hm, rfl⟩ | ⟨hm, xs, rfl⟩
        · have ew : wrd fw rs cs s = "torn" := by
            unfold wrd; rw [if_neg hne, if_neg (by rw [hm]; exact Bool.false_ne_true)]
          have := fin _ (g1 (o := .lst [.int 0, .int (rs.length : Int)]))
          rw [ew] at this
          dsimp! only [id]
          (simp only [Go]; dsimp! only [id])
          exact ⟨by decide, this⟩
        · have ew : wrd fw rs cs s = "tired" := wrd_tired hne hm
          have := fin _ (g1 (o := .lst [.int 0, .int (rs.length : Int)]))
          rw [ew] at this
          dsimp! only [id]
          (simp only [Go]; dsimp! only [id])
          exact ⟨by decide, this⟩
    dsimp! only [id]
    refine ⟨by decide, fun p0 hp0 => ?_⟩
    have g0 : ∀ {o : DO}, Grow G (gup G p0 o) := Grow.refl.new hp0
    dsimp! only [sel]
    (simp only [Go]; dsimp! only [id])
    (simp only [Go]; dsimp! only [id])
    have loop : ∀ (G1 : Gp) (due : D), Grow G G1 → ((mayX fw rs bs s0 = false ∧ due = .non) ∨ (mayX fw rs bs s0 = true ∧ ∃ q', due = .tup [.int ((nxX fw rs bs s0).1 : Int), .ref q'] ∧ G1 q' = some (.lst ((nxX fw rs bs s0).2.map .int)) ∧ (q' = bx ∨ G q' = none))) → _ := fun G1 due g1 hdue =>
      while_ind (c := dAnd (dB (dOp xIsNot2 (dVar 7) (dC .non))) (dB (dOp xLt (dVar 6) (dVar 4)))) (tb := dSeq (dAsg (dVar 7) (jSeq 2 (jCons (jName 2) (jCons (jName 3) jNil)))) (dSeq (dAsg (dOp xAdd (dVar 6) (dC (.int 1))) (jName 6)) (dAsg (dCallV 5 T.f_law_back.a T.f_law_forth.a (S_law_back T) (S_law_forth T) (dCons (dVar 0) (dCons (dVar 2) (dCons (dVar 3) dNil)))) (jName 7))))
        (E := { nx := Go (dSeq (dAsg (dC (.str "tired")) (jName 8)) (dSeq (dIfS (dB (dOp (xEqB false) (dVar 2) (dOp xIx (dLst (dCons (dC (.int 0)) (dCons (dCB xLen (dCons (dVar 0) dNil)) dNil))) (dCB xToInt (dCons (dVar 1) dNil)))))
          (dAsg (dOp xIx (dLst (dCons (dC (.str "begin")) (dCons (dC (.str "end")) dNil))) (dCB xToInt (dCons (dVar 1) dNil))) (jName 8)) (dIfS (dB (dOp xIs2 (dVar 7) (dC .non))) (dAsg (dC (.str "torn")) (jName 8)) dNext))
          (dRet (dTup (dCons (dVar 8) (dCons (dVar 2) (dCons (dVar 3) (dCons (dVar 6) dNil))))))) { nx := fun _ G' => R .non G', rt := R }), rt := R })
        (fun m σ G' => ∃ (k s : Nat) (cs : List Int) (b : Addr) (due : D), m = most - k ∧ RnI fw rs most s0 bs k s cs ∧ Cde sz rs cs s ∧ G' b = some (.lst (cs.map .int)) ∧ (b = bx ∨ G b = none) ∧ Grow G G' ∧
          ((mayX fw rs cs s = false ∧ due = .non) ∨ (mayX fw rs cs s = true ∧ ∃ q', due = .tup [.int ((nxX fw rs cs s).1 : Int), .ref q'] ∧ G' q' = some (.lst ((nxX fw rs cs s).2.map .int)) ∧ (q' = bx ∨ G q' = none))) ∧
          σ = [some (.ref rc), some (.bl fw), some (.int (s : Int)), some (.ref b), some (.int (most : Int)), some (.ref (if fw = true then T.f_law_forth.a else T.f_law_back.a)), some (.int (k : Int)), some due, none]) (m := most) (G := G1)
        ⟨0, s0, bs, bx, due, rfl, RnI.init, c, g1.kp _ _ hbx, .inl rfl, g1, hdue, rfl⟩ (by
          rintro m σ G' N ⟨k, s, cs, b, due, em, hR, cc, hb, hbo, g, hdue, rfl⟩ ih
          rcases hdue with ⟨hm, rfl⟩ | ⟨hm, q', rfl, hq', hqo⟩
          · dsimp! only [id]
            exact stop k s cs b _ G' _ (hR.stop (.inr hm)) hb hbo g (.inl ⟨hm, rfl⟩)
          · dsimp! only [id]
            refine ite_d (fun hk => ?_) (fun hk => stop k s cs b _ G' _ (hR.stop (.inl fun z => hk (by omega))) hb hbo g (.inr ⟨hm, _, rfl⟩))
            (simp only [Go]; dsimp! only [id])
            (simp only [Go]; dsimp! only [id])
            have hk' : k < most := by omega
            have un := undoX hp cc hm
            have e1 : (k : Int) + 1 = ((k + 1 : Nat) : Int) := by omega
            rw [e1]
            refine step _ rfl rfl rfl rfl rfl (g.kp _ _ hrc) hq' un.1 (fun hm2 => ?_) (fun hm2 q2 G2 h1 h2 g2 => ?_)
            · exact ih _ _ (most - (k + 1)) (by omega) ⟨k + 1, _, _, q', _, rfl, hR.step hk' hm, un.1, hq', hqo, g, .inl ⟨hm2, rfl⟩, rfl⟩
            · refine ih _ _ (most - (k + 1)) (by omega) ⟨k + 1, _, _, q', _, rfl, hR.step hk' hm, un.1, g2.kp _ _ hq', hqo, g.trans g2, .inr ⟨hm2, q2, rfl, h1, ?_⟩, rfl⟩
              rcases h2 with z | z
              · rw [z]; exact hqo
              · exact .inr (g.none z))
    refine step _ rfl rfl rfl rfl rfl (g0.kp _ _ hrc) (g0.kp _ _ hbx) c (fun hm => ?_) (fun hm q' G' h1 h2 h3 => ?_)
    · (simp only [Go]; dsimp! only [id])
      exact loop _ _ g0 (.inl ⟨hm, rfl⟩)
    · (simp only [Go]; dsimp! only [id])
      refine loop _ _ (g0.trans h3) (.inr ⟨hm, q', rfl, h1, ?_⟩)
      rcases h2 with z | z
      · exact .inl z
      · exact .inr (g0.none z)
theorem ok_law_same {n : Nat} : Ok P w mg base (n + 1) T.f_law_same (S_law_same T) := by
  refine def_ok T.f_law_same sc_law_same (fun ds G R h => ?_) (fun cdv A outer s H E hr =>
      (ss_cons (s_if (t_w (w_or (t_not (t_val (e_callB x_isinstT rfl T.b_isinstance (by decide +kernel) (a_cons (ev 0) (a_cons (e_type (T := "tuple") T.b_tuple (by decide +kernel)) a_nil))))) (w_or (t_cmp (x_ne hr) (e_callB x_len rfl T.b_len (by decide +kernel) (a_cons (ev 0) a_nil)) e_int (nomark _)) (w_or1 (t_not (t_val (e_callB x_isinst rfl T.b_isinstance (by decide +kernel) (a_cons (e_ix x_ix (ev 0) e_int) (a_cons (e_type (T := "list") T.b_list (by decide +kernel)) a_nil))))))))) (ss_one (s_ret e_bl)) ss_nil)
      (ss_cons (s_if (t_not (t_val (e_callB x_all rfl T.b_all (by decide +kernel) (a_cons (e_comp (N' := ["_law_one"]) (ix := [none]) (blk (osc := defScope s_law_same) (N := ["_law_found", "_law_due"]) rfl rfl (by decide +kernel)) (i_any (e_bin x_add (e_lst (a_cons (e_ix x_ix (ev 0) e_int) (a_cons (e_ix x_ix (ev 0) e_int) a_nil))) (e_ix x_ix (ev 0) e_int))) (fun _ _ _ _ => (j_name 0 (show (["_law_one"] : List Str).Nodup by decide +kernel))) (fun _ _ _ _ => ifs_nil) (fun _ _ _ _ => (e_and (e_callB x_isinst rfl T.b_isinstance (by decide +kernel) (a_cons (ev 0) (a_cons (e_type (T := "int") T.b_int (by decide +kernel)) a_nil))) (e_one (e_not (e_callB x_isinst rfl T.b_isinstance (by decide +kernel) (a_cons (ev 0) (a_cons (e_type (T := "bool") T.b_bool (by decide +kernel)) a_nil)))))))) a_nil)))) (ss_one (s_ret e_bl)) ss_nil)
      (ss_one (s_ret (e_cmp (x_eq hr) (ev 0) (ev 1) (nomark _))))))) (fun ds G R h => ?_)
  · obtain ⟨w, i, j, a, b, ks, rfl, _⟩ := h; rfl
  · obtain ⟨w, i, j, a, b, ks, rfl, ha, hb, hl, post⟩ := h
    have k0 : subK "tuple" "tuple" = true := by decide
    have k1 : subK "int" "int" = true := by decide
    have k2 : subK "int" "bool" = false := by decide
    have k3 : subK "list" "list" = true := by decide
    dsimp! only [xIsinstT, k0, k3, ha]
    refine ⟨by decide, by decide, ?_⟩
    (simp only [Go]; dsimp! only [id])
    refine ⟨by decide, fun p1 hp1 => ?_⟩
    have g1 : ∀ {o : DO}, Grow G (gup G p1 o) := Grow.refl.new hp1
    have fa : gup G p1 (.lst [.int i, .int j]) a = some (.lst (ks.map .int)) := g1.kp _ _ ha
    dsimp! only [xin_all, fa]
    refine ⟨by rw [List.length_map]; exact Nat.le_trans (m := 2000) (by omega) (by decide), fun p2 hp2 => ?_⟩
    have g2 : ∀ {o : DO}, Grow G (gup (gup G p1 (.lst [.int i, .int j])) p2 o) := g1.new hp2
    dsimp! only [id]
    intro p3 hp3
    have n23 : p2 ≠ p3 := fun e => by rw [← e, gup_same] at hp3; cases hp3
    have e0 : (D.int i :: D.int j :: List.map D.int ks) = (i :: j :: ks).map D.int := rfl
    rw [e0]
    refine compL_ind (fun r σ G' => ∃ (ms : List Int) (m : Nat) (v0 : Option D), r = ms.map .int ∧ ms.length + m = ks.length + 2 ∧ G' = gup (gup (gup G p1 (.lst [.int i, .int j])) p2 (.lst ((i :: j :: ks).map .int))) p3 (.lst (List.replicate m (.bl true))) ∧ σ = [v0])
        ⟨i :: j :: ks, 0, none, rfl, rfl, rfl, rfl⟩ ?_ ?_
    · rintro σ G' ⟨ms, m, v0, e1, _, rfl, rfl⟩
      refine ⟨by rw [gup_ne n23, gup_same]; rfl, ?_⟩
      dsimp! only [allBl_rep, all_rep]
      (simp only [Go]; dsimp! only [id])
      have g3 : Grow G (gup (gup (gup G p1 (.lst [.int i, .int j])) p2 (.lst ((i :: j :: ks).map .int))) p3 (.lst (List.replicate m (.bl true)))) := g2.new hp3
      refine cmp_out (ks := ks) (congrArg seqOf (g3.kp _ _ ha)) (congrArg seqOf (g3.kp _ _ hb)) ?_
      exact post _ g3
    · rintro z r σ G' ⟨ms, m, v0, e1, hlm, rfl, rfl⟩ ih
      cases ms with
      | nil => cases e1
      | cons k ms =>
        cases e1
        refine ⟨by rw [gup_ne n23, gup_same]; rfl, ?_⟩
        dsimp! only [k1, k2]
        rw [List.length_cons] at hlm
        refine ⟨by decide, by decide, by rw [List.length_replicate]; exact Nat.lt_of_le_of_lt (m := 2000) (by omega) (by decide), ?_⟩
        refine ih _ _ ⟨ms, m + 1, _, rfl, by omega, ?_, rfl⟩
        rw [gup_gup, List.replicate_succ']
        rfl
theorem lst5 {X : Cx} {e1 e2 e3 e4 e5 : Expr} {t1 t2 t3 t4 t5 : TE3} {pos : Pos} (h1 : E3 X e1 t1) (h2 : E3 X e2 t2) (h3 : E3 X e3 t3) (h4 : E3 X e4 t4) (h5 : E3 X e5 t5)
    (s1 : starEach [e1, e2, e3, e4, e5] X.env = (false, eval e1 X.env) :: starEach [e2, e3, e4, e5] X.env) (s2 : starEach [e2, e3, e4, e5] X.env = (false, eval e2 X.env) :: starEach [e3, e4, e5] X.env) (s3 : starEach [e3, e4, e5] X.env = (false, eval e3 X.env) :: starEach [e4, e5] X.env) (s4 : starEach [e4, e5] X.env = (false, eval e4 X.env) :: starEach [e5] X.env) (s5 : starEach [e5] X.env = (false, eval e5 X.env) :: starEach [] X.env) :
    E3 X (.List [e1, e2, e3, e4, e5] pos) (dLst (dCons t1 (dCons t2 (dCons t3 (dCons t4 (dCons t5 dNil)))))) := e_lst (a_cons h1 (a_cons h2 (a_cons h3 (a_cons h4 (a_cons h5 a_nil s5) s4) s3) s2) s1)
theorem se {c : List Expr} {l : Nat} {p : Pos} {es : List Expr} {env : Env} : starEach (.Tuple c l p :: es) env = (false, eval (.Tuple c l p) env) :: starEach es env := by rfl
theorem lg0 {X : Cx} : E3 X (Expr.Tuple [Expr.Constant (Const.str ("go" : Str)) 0 { line := 218, col := 18, endLine := 218, endCol := 22 }, Expr.Constant (Const.int 0) 0 { line := 218, col := 24, endLine := 218, endCol := 25 }, Expr.Constant (Const.int 0) 0 { line := 218, col := 27, endLine := 218, endCol := 28 }, Expr.Constant (Const.int 2) 0 { line := 218, col := 30, endLine := 218, endCol := 31 }] 0 { line := 218, col := 17, endLine := 218, endCol := 32 }) (dTup (dCons (dC (.str "go")) (dCons (dC (.int 0)) (dCons (dC (.int 0)) (dCons (dC (.int 2)) dNil))))) := (e_tup (a_cons e_str (a_cons e_int (a_cons e_int (a_cons e_int a_nil)))))
theorem lg1 {X : Cx} : E3 X (Expr.Tuple [Expr.Constant (Const.str ("come" : Str)) 0 { line := 218, col := 35, endLine := 218, endCol := 41 }, Expr.Constant (Const.int 1) 0 { line := 218, col := 43, endLine := 218, endCol := 44 }, Expr.Constant (Const.int 0) 0 { line := 218, col := 46, endLine := 218, endCol := 47 }, Expr.Constant (Const.int 4) 0 { line := 218, col := 49, endLine := 218, endCol := 50 }] 0 { line := 218, col := 34, endLine := 218, endCol := 51 }) (dTup (dCons (dC (.str "come")) (dCons (dC (.int 1)) (dCons (dC (.int 0)) (dCons (dC (.int 4)) dNil))))) := (e_tup (a_cons e_str (a_cons e_int (a_cons e_int (a_cons e_int a_nil)))))
theorem lg2 {X : Cx} : E3 X (Expr.Tuple [Expr.Constant (Const.str ("come" : Str)) 0 { line := 218, col := 54, endLine := 218, endCol := 60 }, Expr.Constant (Const.int 0) 0 { line := 218, col := 62, endLine := 218, endCol := 63 }, Expr.Constant (Const.int 0) 0 { line := 218, col := 65, endLine := 218, endCol := 66 }, Expr.Constant (Const.int 0) 0 { line := 218, col := 68, endLine := 218, endCol := 69 }] 0 { line := 218, col := 53, endLine := 218, endCol := 70 }) (dTup (dCons (dC (.str "come")) (dCons (dC (.int 0)) (dCons (dC (.int 0)) (dCons (dC (.int 0)) dNil))))) := (e_tup (a_cons e_str (a_cons e_int (a_cons e_int (a_cons e_int a_nil)))))
theorem lg3 {X : Cx} : E3 X (Expr.Tuple [Expr.Constant (Const.str ("add" : Str)) 0 { line := 218, col := 73, endLine := 218, endCol := 78 }, Expr.Constant (Const.int 0) 0 { line := 218, col := 80, endLine := 218, endCol := 81 }, Expr.Tuple [Expr.Constant (Const.str ("num" : Str)) 0 { line := 218, col := 84, endLine := 218, endCol := 89 }, Expr.Constant (Const.int 1) 0 { line := 218, col := 91, endLine := 218, endCol := 92 }] 0 { line := 218, col := 83, endLine := 218, endCol := 93 }] 0 { line := 218, col := 72, endLine := 218, endCol := 94 }) (dTup (dCons (dC (.str "add")) (dCons (dC (.int 0)) (dCons (dTup (dCons (dC (.str "num")) (dCons (dC (.int 1)) dNil))) dNil)))) := (e_tup (a_cons e_str (a_cons e_int (a_cons (e_tup (a_cons e_str (a_cons e_int a_nil))) a_nil))))
theorem lg4 {X : Cx} : E3 X (Expr.Tuple [Expr.Constant (Const.str ("go" : Str)) 0 { line := 218, col := 97, endLine := 218, endCol := 101 }, Expr.Constant (Const.int 1) 0 { line := 218, col := 103, endLine := 218, endCol := 104 }, Expr.Constant (Const.int 0) 0 { line := 218, col := 106, endLine := 218, endCol := 107 }, Expr.Constant (Const.int 1) 0 { line := 218, col := 109, endLine := 218, endCol := 110 }] 0 { line := 218, col := 96, endLine := 218, endCol := 111 }) (dTup (dCons (dC (.str "go")) (dCons (dC (.int 1)) (dCons (dC (.int 0)) (dCons (dC (.int 1)) dNil))))) := (e_tup (a_cons e_str (a_cons e_int (a_cons e_int (a_cons e_int a_nil)))))
theorem lgl {X : Cx} : E3 X (Expr.List [Expr.Tuple [Expr.Constant (Const.str ("go" : Str)) 0 { line := 218, col := 18, endLine := 218, endCol := 22 }, Expr.Constant (Const.int 0) 0 { line := 218, col := 24, endLine := 218, endCol := 25 }, Expr.Constant (Const.int 0) 0 { line := 218, col := 27, endLine := 218, endCol := 28 }, Expr.Constant (Const.int 2) 0 { line := 218, col := 30, endLine := 218, endCol := 31 }] 0 { line := 218, col := 17, endLine := 218, endCol := 32 }, Expr.Tuple [Expr.Constant (Const.str ("come" : Str)) 0 { line := 218, col := 35, endLine := 218, endCol := 41 }, Expr.Constant (Const.int 1) 0 { line := 218, col := 43, endLine := 218, endCol := 44 }, Expr.Constant (Const.int 0) 0 { line := 218, col := 46, endLine := 218, endCol := 47 }, Expr.Constant (Const.int 4) 0 { line := 218, col := 49, endLine := 218, endCol := 50 }] 0 { line := 218, col := 34, endLine := 218, endCol := 51 }, Expr.Tuple [Expr.Constant (Const.str ("come" : Str)) 0 { line := 218, col := 54, endLine := 218, endCol := 60 }, Expr.Constant (Const.int 0) 0 { line := 218, col := 62, endLine := 218, endCol := 63 }, Expr.Constant (Const.int 0) 0 { line := 218, col := 65, endLine := 218, endCol := 66 }, Expr.Constant (Const.int 0) 0 { line := 218, col := 68, endLine := 218, endCol := 69 }] 0 { line := 218, col := 53, endLine := 218, endCol := 70 }, Expr.Tuple [Expr.Constant (Const.str ("add" : Str)) 0 { line := 218, col := 73, endLine := 218, endCol := 78 }, Expr.Constant (Const.int 0) 0 { line := 218, col := 80, endLine := 218, endCol := 81 }, Expr.Tuple [Expr.Constant (Const.str ("num" : Str)) 0 { line := 218, col := 84, endLine := 218, endCol := 89 }, Expr.Constant (Const.int 1) 0 { line := 218, col := 91, endLine := 218, endCol := 92 }] 0 { line := 218, col := 83, endLine := 218, endCol := 93 }] 0 { line := 218, col := 72, endLine := 218, endCol := 94 }, Expr.Tuple [Expr.Constant (Const.str ("go" : Str)) 0 { line := 218, col := 97, endLine := 218, endCol := 101 }, Expr.Constant (Const.int 1) 0 { line := 218, col := 103, endLine := 218, endCol := 104 }, Expr.Constant (Const.int 0) 0 { line := 218, col := 106, endLine := 218, endCol := 107 }, Expr.Constant (Const.int 1) 0 { line := 218, col := 109, endLine := 218, endCol := 110 }] 0 { line := 218, col := 96, endLine := 218, endCol := 111 }] { line := 218, col := 16, endLine := 218, endCol := 112 }) (dLst (dCons (dTup (dCons (dC (.str "go")) (dCons (dC (.int 0)) (dCons (dC (.int 0)) (dCons (dC (.int 2)) dNil))))) (dCons (dTup (dCons (dC (.str "come")) (dCons (dC (.int 1)) (dCons (dC (.int 0)) (dCons (dC (.int 4)) dNil))))) (dCons (dTup (dCons (dC (.str "come")) (dCons (dC (.int 0)) (dCons (dC (.int 0)) (dCons (dC (.int 0)) dNil))))) (dCons (dTup (dCons (dC (.str "add")) (dCons (dC (.int 0)) (dCons (dTup (dCons (dC (.str "num")) (dCons (dC (.int 1)) dNil))) dNil)))) (dCons (dTup (dCons (dC (.str "go")) (dCons (dC (.int 1)) (dCons (dC (.int 0)) (dCons (dC (.int 1)) dNil))))) dNil)))))) := by
  refine lst5 (e1 := _) (e2 := _) ?_ ?_ ?_ ?_ ?_ ?_ ?_ ?_ ?_ ?_
  · exact lg0
  · exact lg1
  · exact lg2
  · exact lg3
  · exact lg4
  all_goals exact se
theorem swl {es : List Expr} {p : Pos} {t : Option Expr} {n : Nat} {env : Env} : swapsWith (.List es p) t n env = pure false := by rfl
theorem lls0 {cdv : Value} {A : Around} {outer : List Env} {s : Shared} {H : Hp} {E : XK} : S3 (cxOf CX0 P w K mg base [("_law_many" : Str), "_law_rows", "_law_code_here", "_law_most", "_law_found"] "_law_long" (defScope s_law_long) T.f_law_long.a cdv A outer s H E).nox (Stmt.Assign [Expr.Name ("_law_rows" : Str) { line := 218, col := 4, endLine := 218, endCol := 13 }] (Expr.List [Expr.Tuple [Expr.Constant (Const.str ("go" : Str)) 0 { line := 218, col := 18, endLine := 218, endCol := 22 }, Expr.Constant (Const.int 0) 0 { line := 218, col := 24, endLine := 218, endCol := 25 }, Expr.Constant (Const.int 0) 0 { line := 218, col := 27, endLine := 218, endCol := 28 }, Expr.Constant (Const.int 2) 0 { line := 218, col := 30, endLine := 218, endCol := 31 }] 0 { line := 218, col := 17, endLine := 218, endCol := 32 }, Expr.Tuple [Expr.Constant (Const.str ("come" : Str)) 0 { line := 218, col := 35, endLine := 218, endCol := 41 }, Expr.Constant (Const.int 1) 0 { line := 218, col := 43, endLine := 218, endCol := 44 }, Expr.Constant (Const.int 0) 0 { line := 218, col := 46, endLine := 218, endCol := 47 }, Expr.Constant (Const.int 4) 0 { line := 218, col := 49, endLine := 218, endCol := 50 }] 0 { line := 218, col := 34, endLine := 218, endCol := 51 }, Expr.Tuple [Expr.Constant (Const.str ("come" : Str)) 0 { line := 218, col := 54, endLine := 218, endCol := 60 }, Expr.Constant (Const.int 0) 0 { line := 218, col := 62, endLine := 218, endCol := 63 }, Expr.Constant (Const.int 0) 0 { line := 218, col := 65, endLine := 218, endCol := 66 }, Expr.Constant (Const.int 0) 0 { line := 218, col := 68, endLine := 218, endCol := 69 }] 0 { line := 218, col := 53, endLine := 218, endCol := 70 }, Expr.Tuple [Expr.Constant (Const.str ("add" : Str)) 0 { line := 218, col := 73, endLine := 218, endCol := 78 }, Expr.Constant (Const.int 0) 0 { line := 218, col := 80, endLine := 218, endCol := 81 }, Expr.Tuple [Expr.Constant (Const.str ("num" : Str)) 0 { line := 218, col := 84, endLine := 218, endCol := 89 }, Expr.Constant (Const.int 1) 0 { line := 218, col := 91, endLine := 218, endCol := 92 }] 0 { line := 218, col := 83, endLine := 218, endCol := 93 }] 0 { line := 218, col := 72, endLine := 218, endCol := 94 }, Expr.Tuple [Expr.Constant (Const.str ("go" : Str)) 0 { line := 218, col := 97, endLine := 218, endCol := 101 }, Expr.Constant (Const.int 1) 0 { line := 218, col := 103, endLine := 218, endCol := 104 }, Expr.Constant (Const.int 0) 0 { line := 218, col := 106, endLine := 218, endCol := 107 }, Expr.Constant (Const.int 1) 0 { line := 218, col := 109, endLine := 218, endCol := 110 }] 0 { line := 218, col := 96, endLine := 218, endCol := 111 }] { line := 218, col := 16, endLine := 218, endCol := 112 }) { line := 218, col := 4, endLine := 218, endCol := 112 }) (dAsg (dLst (dCons (dTup (dCons (dC (.str "go")) (dCons (dC (.int 0)) (dCons (dC (.int 0)) (dCons (dC (.int 2)) dNil))))) (dCons (dTup (dCons (dC (.str "come")) (dCons (dC (.int 1)) (dCons (dC (.int 0)) (dCons (dC (.int 4)) dNil))))) (dCons (dTup (dCons (dC (.str "come")) (dCons (dC (.int 0)) (dCons (dC (.int 0)) (dCons (dC (.int 0)) dNil))))) (dCons (dTup (dCons (dC (.str "add")) (dCons (dC (.int 0)) (dCons (dTup (dCons (dC (.str "num")) (dCons (dC (.int 1)) dNil))) dNil)))) (dCons (dTup (dCons (dC (.str "go")) (dCons (dC (.int 1)) (dCons (dC (.int 0)) (dCons (dC (.int 1)) dNil))))) dNil)))))) (jName 1)) := by
  have h := @lgl (cxOf CX0 P w K mg base [("_law_many" : Str), "_law_rows", "_law_code_here", "_law_most", "_law_found"] "_law_long" (defScope s_law_long) T.f_law_long.a cdv A outer s H E).nox
  revert h
  generalize hL : Expr.List _ _ = L
  intro h
  refine s_set 1 sc_law_long.nd h (hs := ?_)
  subst hL
  exact swl
theorem ok_law_long {n : Nat} (G_run_forth : Ok P w mg base n T.f_run_forth (S_run_forth T)) (G_run_back : Ok P w mg base n T.f_run_back (S_run_back T)) (G_law_run : Ok P w mg base n T.f_law_run (S_law_run T)) (G_law_same : Ok P w mg base n T.f_law_same (S_law_same T)) : Ok P w mg base (n + 1) T.f_law_long (S_law_long T) := by
  refine' def_ok T.f_law_long sc_law_long (fun ds G R h => ?len) (t := dSeq (dAsg (dLst (dCons (dTup (dCons (dC (.str "go")) (dCons (dC (.int 0)) (dCons (dC (.int 0)) (dCons (dC (.int 2)) dNil))))) (dCons (dTup (dCons (dC (.str "come")) (dCons (dC (.int 1)) (dCons (dC (.int 0)) (dCons (dC (.int 4)) dNil))))) (dCons (dTup (dCons (dC (.str "come")) (dCons (dC (.int 0)) (dCons (dC (.int 0)) (dCons (dC (.int 0)) dNil))))) (dCons (dTup (dCons (dC (.str "add")) (dCons (dC (.int 0)) (dCons (dTup (dCons (dC (.str "num")) (dCons (dC (.int 1)) dNil))) dNil)))) (dCons (dTup (dCons (dC (.str "go")) (dCons (dC (.int 1)) (dCons (dC (.int 0)) (dCons (dC (.int 1)) dNil))))) dNil)))))) (jName 1)) (dSeq _ (dSeq _ _))) (fun cdv A outer s H E hr => ?der) (fun ds G R h => ?run)
  case der =>
    refine' ss_cons ?_ ?_
    · have h := @lls0 P w K mg base T cdv A outer s H E
      assumption
    refine' ss_cons ?_ ?_
    · exact (s_set 2 sc_law_long.nd (e_tup (a_cons e_int (a_cons (ev 1) a_nil))))
    refine' ss_cons ?_ ?_
    · exact (s_for (i_any (e_tup (a_cons (ev 0) (a_cons e_int a_nil)))) (j_name 3 sc_law_long.nd) (ss_cons (s_set 4 sc_law_long.nd (ec T.f_run_forth T.g_run_forth G_run_forth hr (a_cons (ev 2) (a_cons (e_lst (a_cons e_int (a_cons e_int a_nil))) (a_cons (ev 3) a_nil)))))
      (ss_one (s_if (t_w (w_or (t_not (t_val (ec T.f_law_same T.g_law_same G_law_same hr (a_cons (ev 4) (a_cons (ec T.f_law_run T.g_law_run G_law_run hr (a_cons (ev 1) (a_cons e_bl (a_cons e_int (a_cons (e_lst (a_cons e_int (a_cons e_int a_nil))) (a_cons (ev 3) a_nil)))))) a_nil))))) (w_or1 (t_cmp (x_ne hr) (e_ix x_ix (ev 4) e_int) e_str (nomark _))))) (ss_one (s_ret e_bl)) ss_nil))))
    refine' ss_one ?_
    exact (s_ret (e_cmp (x_eq hr) (ec T.f_run_back T.g_run_back G_run_back hr (a_cons (ev 2) (a_cons (e_ix x_ix (ev 4) e_int) (a_cons (e_ix x_ix (ev 4) e_int) (a_cons e_int a_nil))))) (e_tup (a_cons e_str (a_cons e_int (a_cons (e_lst (a_cons e_int (a_cons e_int a_nil))) (a_cons e_int a_nil))))) (nomark _)))
  · obtain ⟨m, rfl, _⟩ := h; rfl
  · obtain ⟨m, rfl, hm3, hm, post⟩ := h
    dsimp! only [le_all]
    intro ra hra
    have g1 : ∀ {o : DO}, Grow G (gup G ra o) := Grow.refl.new hra
    have hrc : gup G ra (.lst [.tup [.str "go", .int 0, .int 0, .int 2], .tup [.str "come", .int 1, .int 0, .int 4], .tup [.str "come", .int 0, .int 0, .int 0], .tup [.str "add", .int 0, .tup [.str "num", .int 1]], .tup [.str "go", .int 1, .int 0, .int 1]]) ra = some (.lst (L5.map Row.d)) := gup_same
    revert hrc
    generalize hG0 : gup G ra (.lst [.tup [.str "go", .int 0, .int 0, .int 2], .tup [.str "come", .int 1, .int 0, .int 4], .tup [.str "come", .int 0, .int 0, .int 0], .tup [.str "add", .int 0, .tup [.str "num", .int 1]], .tup [.str "go", .int 1, .int 0, .int 1]]) = G0
    intro hrc
    have g0 : Grow G G0 := hG0 ▸ g1
    (simp only [Go]; dsimp! only [le_all])
    (simp only [Go]; dsimp! only [le_all])
    -- one turn
    have turn : ∀ (most : Nat) (G1 : Gp) (v4 : Option D) (N : DSt → Gp → Prop) (B : DSt → Gp → Prop), 1 ≤ most → most ≤ 5000 → Grow G0 G1 → (∀ q G2, G2 q = some (.lst ((rn true L5 most 0 [0, 0]).2.2.map .int)) → Grow G0 G2 → N [some (.int (m : Int)), some (.ref ra), some (.tup [.int 2, .ref ra]), some (.int (most : Int)), some (outD true L5 (rn true L5 most 0 [0, 0]) q)] G2) →
        dSeq (dAsg (dCall (S_run_forth T) [] (dCons (dVar 2) (dCons (dLst (dCons (dC (.int 0)) (dCons (dC (.int 0)) dNil))) (dCons (dVar 3) dNil)))) (jName 4))
          (dIfS (dOr (dNot (dB (dCall (S_law_same T) [] (dCons (dVar 4) (dCons (dCall (S_law_run T) [] (dCons (dVar 1) (dCons (dC (.bl true)) (dCons (dC (.int 0)) (dCons (dLst (dCons (dC (.int 0)) (dCons (dC (.int 0)) dNil))) (dCons (dVar 3) dNil)))))) dNil))))) (dB (dOp (xEqB true) (dOp xIx (dVar 4) (dC (.int 0))) (dC (.str "tired"))))) (dRet (dC (.bl false))) dNext)
          { nx := N, rt := R, bk := B, ct := N } [some (.int (m : Int)), some (.ref ra), some (.tup [.int 2, .ref ra]), some (.int (most : Int)), v4] G1 := by
      intro most G1 v4 N B h1 h2 g1' k
      obtain ⟨_, ew⟩ := L5_run h1 h2
      dsimp! only [le_all]
      intro q1 hq1
      have ga : ∀ {o : DO}, Grow G0 (gup G1 q1 o) := g1'.new hq1
      refine c_runF T (rs := L5) (bs := [0, 0]) (ga.kp _ _ hrc) gup_same L5_cde L5_pairs fun q G2 nq hq g2 => ?_
      have g02 := ga.trans g2
      (simp only [Go]; dsimp! only [le_all])
      intro q3 hq3
      have gb : ∀ {o : DO}, Grow G0 (gup G2 q3 o) := g02.new hq3
      refine c_lrun T (fw := true) (s := 0) (rs := L5) (bs := [0, 0]) (gb.kp _ _ hrc) gup_same L5_cde L5_pairs fun q4 G4 hq4o hq4 g4 => ?_
      have hq' : G4 q = some (.lst ((rn true L5 most 0 [0, 0]).2.2.map .int)) := g4.kp _ _ (by rw [gup_ne (gne hq hq3)]; exact hq)
      dsimp! only [id]
      refine c_same T hq' hq4 (by rw [(rn_cde (fw := true) L5_pairs (n := most) L5_cde).bo.len]; decide) fun G5 g5 => ?_
      dsimp! only [outD, ew]
      have := k q G5 (g5.kp _ _ hq') ((gb.trans g4).trans g5)
      simp only [outD, ew] at this
      exact this
    refine ⟨trivial, turn m G0 _ _ _ (by omega) (by omega) Grow.refl fun q G2 hq g2 => ?_⟩
    refine ⟨trivial, turn 1500 G2 _ _ _ (by decide) (by decide) g2 fun q' G3 hq3 g3 => ?_⟩
    refine ⟨trivial, ?_⟩
    (simp only [Go]; dsimp! only [outD])
    refine c_runB T (rs := L5) (bs := (rn true L5 1500 0 [0, 0]).2.2) (s := (rn true L5 1500 0 [0, 0]).2.1) (most := 1600) (g3.kp _ _ hrc) hq3 (rn_cde (fw := true) L5_pairs L5_cde) L5_pairs fun q5 G5 nq5 hq5 g5 => ?_
    rw [L5_back] at hq5 ⊢
    have ew : wrd false L5 [0, 0] 0 = "begin" := rfl
    dsimp! only [outD, le_all, ew]
    intro q6 hq6
    refine cmp_out (ks := [0, 0]) (by rw [gup_ne (gne hq5 hq6), hq5]; rfl) (by rw [gup_same]; rfl) ?_
    exact post _ (((g0.trans g3).trans g5).new hq6)
theorem ok_law {n : Nat} (G_run_forth : Ok P w mg base n T.f_run_forth (S_run_forth T)) (G_run_back : Ok P w mg base n T.f_run_back (S_run_back T)) (G_law_draw : Ok P w mg base n T.f_law_draw (S_law_draw T)) (G_law_code : Ok P w mg base n T.f_law_code (S_law_code T)) (G_law_boxes : Ok P w mg base n T.f_law_boxes (S_law_boxes T)) (G_law_run : Ok P w mg base n T.f_law_run (S_law_run T)) (G_law_same : Ok P w mg base n T.f_law_same (S_law_same T)) (G_law_long : Ok P w mg base n T.f_law_long (S_law_long T)) : Ok P w mg base (n + 1) T.f_law (S_law T) := by
  refine def_ok T.f_law sc_law (fun ds G R h => ?_) (fun cdv A outer s H E hr =>
      (ss_cons (s_set 1 sc_law.nd (e_lst (a_cons (ev 0) (a_cons e_int (a_cons e_int a_nil)))))
      (ss_cons (s_if (t_w (w_and (t_cmp (x_eq hr) (ec T.f_law_draw T.g_law_draw G_law_draw hr (a_cons (ev 1) (a_cons e_int a_nil))) e_int (nomark _)) (w_and1 (t_not (t_val (ec T.f_law_long T.g_law_long G_law_long hr (a_cons (e_bin x_add e_int (ec T.f_law_draw T.g_law_draw G_law_draw hr (a_cons (ev 1) (a_cons e_int a_nil)))) a_nil))))))) (ss_one (s_ret e_bl)) ss_nil)
      (ss_cons (s_set 2 sc_law.nd (e_bin x_add e_int (ec T.f_law_draw T.g_law_draw G_law_draw hr (a_cons (ev 1) (a_cons e_int a_nil)))))
      (ss_cons (s_set 3 sc_law.nd (e_ix x_ix (e_lst (a_cons (e_bin x_add e_int (ec T.f_law_draw T.g_law_draw G_law_draw hr (a_cons (ev 1) (a_cons e_int a_nil)))) (a_cons (ec T.f_law_draw T.g_law_draw G_law_draw hr (a_cons (ev 1) (a_cons e_int a_nil))) a_nil))) (ec T.f_law_draw T.g_law_draw G_law_draw hr (a_cons (ev 1) (a_cons e_int a_nil)))))
      (ss_cons (s_set 4 sc_law.nd (ec T.f_law_code T.g_law_code G_law_code hr (a_cons (ev 1) (a_cons (ev 2) (a_cons (ev 3) (a_cons (ec T.f_law_draw T.g_law_draw G_law_draw hr (a_cons (ev 1) (a_cons e_int a_nil))) a_nil))))))
      (ss_cons (s_set 5 sc_law.nd (ec T.f_law_boxes T.g_law_boxes G_law_boxes hr (a_cons (ev 1) (a_cons (ev 2) a_nil))))
      (ss_cons (s_set 6 sc_law.nd (ec T.f_law_draw T.g_law_draw G_law_draw hr (a_cons (ev 1) (a_cons (e_bin x_add (ev 3) e_int) a_nil))))
      (ss_cons (s_set 7 sc_law.nd (ec T.f_law_run T.g_law_run G_law_run hr (a_cons (e_ix x_ix (ev 4) e_int) (a_cons e_bl (a_cons e_int (a_cons (ev 5) (a_cons e_int a_nil)))))))
      (ss_cons (s_set 8 sc_law.nd (ec T.f_law_run T.g_law_run G_law_run hr (a_cons (e_ix x_ix (ev 4) e_int) (a_cons e_bl (a_cons (ev 6) (a_cons (ev 5) (a_cons e_int a_nil)))))))
      (ss_cons (s_set 9 sc_law.nd (e_lst (a_cons e_int (a_cons (ec T.f_law_draw T.g_law_draw G_law_draw hr (a_cons (ev 1) (a_cons e_int a_nil))) (a_cons (e_ix x_ix (ev 7) e_int) (a_cons (e_callB x_max2 rfl T.b_max (by decide +kernel) (a_cons e_int (a_cons (e_bin x_sub (e_ix x_ix (ev 7) e_int) e_int) a_nil))) (a_cons (e_ix x_ix (ev 8) e_int) (a_cons (e_callB x_max2 rfl T.b_max (by decide +kernel) (a_cons e_int (a_cons (e_bin x_sub (e_ix x_ix (ev 8) e_int) e_int) a_nil))) (a_cons e_int a_nil)))))))))
      (ss_cons (s_for (i_any (ev 9)) (j_name 10 sc_law.nd) (ss_cons (s_set 11 sc_law.nd (e_callTy x_toList rfl T.b_list (by decide +kernel) (a_cons (ev 5) a_nil)))
      (ss_cons (s_if (t_not (t_val (ec T.f_law_same T.g_law_same G_law_same hr (a_cons (ec T.f_run_forth T.g_run_forth G_run_forth hr (a_cons (ev 4) (a_cons (ev 11) (a_cons (ev 10) a_nil)))) (a_cons (ec T.f_law_run T.g_law_run G_law_run hr (a_cons (e_ix x_ix (ev 4) e_int) (a_cons e_bl (a_cons e_int (a_cons (ev 5) (a_cons (ev 10) a_nil)))))) a_nil))))) (ss_one (s_ret e_bl)) ss_nil)
      (ss_cons (s_if (t_not (t_val (ec T.f_law_same T.g_law_same G_law_same hr (a_cons (ec T.f_run_back T.g_run_back G_run_back hr (a_cons (ev 4) (a_cons (ev 11) (a_cons (ev 6) (a_cons (ev 10) a_nil))))) (a_cons (ec T.f_law_run T.g_law_run G_law_run hr (a_cons (e_ix x_ix (ev 4) e_int) (a_cons e_bl (a_cons (ev 6) (a_cons (ev 5) (a_cons (ev 10) a_nil)))))) a_nil))))) (ss_one (s_ret e_bl)) ss_nil)
      (ss_one (s_if (t_cmp (x_ne hr) (ev 11) (ev 5) (nomark _)) (ss_one (s_ret e_bl)) ss_nil))))))
      (ss_cons (s_set 12 sc_law.nd (ec T.f_run_forth T.g_run_forth G_run_forth hr (a_cons (ev 4) (a_cons (ev 5) (a_cons (e_ix x_ix (ev 9) e_int) a_nil)))))
      (ss_one (s_ret (e_cmp (x_eq hr) (e_sl x_sl (ec T.f_run_back T.g_run_back G_run_back hr (a_cons (ev 4) (a_cons (e_ix x_ix (ev 12) e_int) (a_cons (e_ix x_ix (ev 12) e_int) (a_cons (e_ix x_ix (ev 12) e_int) a_nil))))) (o_some e_int) o_none) (e_tup (a_cons e_int (a_cons (ev 5) (a_cons (e_ix x_ix (ev 12) e_int) a_nil)))) (nomark _))))))))))))))))) (fun ds G R h => ?_)
  · obtain ⟨a, ns, rfl, _⟩ := h; rfl
  · obtain ⟨a, ns, rfl, ha, hns, post⟩ := h
    dsimp! only [id]
    refine ⟨by decide, fun st hst => ?_⟩
    have hast : a ≠ st := gne ha hst
    have S0 : StAt (gup G st (.lst [.ref a, .int 0, .int 0])) st := ⟨a, ns, 0, 0, gup_same, by rw [gup_ne hast]; exact ha, by omega, by omega, hast, hns⟩
    (simp only [Go]; dsimp! only [id])
    refine draw_call S0 (by decide) (by decide) fun v1 G1 a1 p1 q1 => ?_
    dsimp! only [id]
    generalize hN : Go (dSeq _ _ _) = N
    have key : ∀ G2, StAt G2 st → N [some (.ref a), some (.ref st), none, none, none, none, none, none, none, none, none, none, none] G2 := by
      intro G2 S2
      rw [← hN]
      (simp only [Go]; dsimp! only [id])
      refine draw_call S2 (by decide) (by decide) fun w1 G3 b3 r1 r2 => ?_
      obtain ⟨sz, hsz⟩ : ∃ sz : Nat, 1 + w1 = (sz : Int) := ⟨(1 + w1).toNat, by omega⟩
      dsimp! only [hsz]
      have hs1 : 1 ≤ sz := by omega
      have hs2 : sz ≤ 8 := by omega
      (simp only [Go]; dsimp! only [id])
      refine draw_call b3.at_ (by decide) (by decide) fun w2 G4 b4 r3 r4 => ?_
      dsimp! only [id]
      refine draw_call b4.at_ (by decide) (by decide) fun w3 G5 b5 r5 r6 => ?_
      dsimp! only [id]
      refine ⟨by decide, fun pl hpl => ?_⟩
      have hpls : pl ≠ st := b5.at_.ne hpl
      refine draw_call (b5.new hpl).at_ (by decide) (by decide) fun w4 G6 b6 r7 r8 => ?_
      have hpl6 : G6 pl = _ := b6.kp _ _ hpls gup_same
      obtain ⟨m, hm, hm40⟩ : ∃ m : Nat, atI [D.int (1 + w2), .int w3] w4 = some (.int (m : Int)) ∧ m ≤ 40 := by
        have : w4 = 0 ∨ w4 = 1 := by omega
        rcases this with rfl | rfl
        · exact ⟨(1 + w2).toNat, by rw [atI_0, Int.toNat_of_nonneg (by omega)], by omega⟩
        · exact ⟨w3.toNat, by rw [atI_1, Int.toNat_of_nonneg (by omega)], by omega⟩
      dsimp! only [hpl6, hm]
      (simp only [Go]; dsimp! only [id])
      refine draw_call b6.at_ (by decide) (by decide) fun jm G7 b7 r9 r10 => ?_
      dsimp! only [id]
      refine call_nd (post := fun d G' => ∃ (ra : Addr) (rs : List Row), d = .tup [.int (sz : Int), .ref ra] ∧ Adv st G7 G' ∧ G7 ra = none ∧ G' ra = some (.lst (rs.map Row.d)) ∧ rs.length = m ∧ (∀ r ∈ rs, r.ok sz) ∧ Pairs rs) (fun R h => ⟨st, sz, m, jm, rfl, b7.at_, hs1, by omega, by omega, fun ra rs G' x1 x2 x3 x4 x5 x6 => h _ _ ⟨ra, rs, rfl, x1, x2, x3, x4, x5, x6⟩⟩) ?_
      rintro d G8 ⟨rc, rs, rfl, b8, hrc7, hrc, hlen, hrok, hprs⟩
      have hrcs : rc ≠ st := b7.at_.ne hrc7
      dsimp! only [id]
      (simp only [Go]; dsimp! only [id])
      refine call_nd (post := fun d G' => ∃ (q : Addr) (bs : List Int), d = .ref q ∧ Adv st G8 G' ∧ G8 q = none ∧ G' q = some (.lst (bs.map .int)) ∧ BsOk sz bs) (fun R h => ⟨st, sz, rfl, b8.at_, by omega, fun q bs G' x1 x2 x3 x4 => h _ _ ⟨q, bs, rfl, x1, x2, x3, x4⟩⟩) ?_
      rintro d G9 ⟨bx, bs, rfl, b9, hbx8, hbx, hbs⟩
      have hbxs : bx ≠ st := b8.at_.ne hbx8
      dsimp! only [id]
      (simp only [Go]; dsimp! only [id])
      refine draw_call b9.at_ (by omega) (by omega) fun pv G10 b10 r11 r12 => ?_
      obtain ⟨at0, rfl⟩ := to_nat r11
      have hrc10 := b10.kp _ _ hrcs (b9.kp _ _ hrcs hrc)
      have hbx10 := b10.kp _ _ hbxs hbx
      have c0 : Cde sz rs bs 0 := ⟨hbs, hrok, Nat.zero_le _⟩
      have cp : Cde sz rs bs at0 := ⟨hbs, hrok, by omega⟩
      have hl8 : bs.length ≤ 1000 := by rw [hbs.len]; omega
      have rlen : ∀ (fw : Bool) (n s : Nat), Cde sz rs bs s → (rn fw rs n s bs).2.2.length ≤ 1000 := fun fw n s c => by rw [(rn_cde (fw := fw) hprs (n := n) c).bo.len]; omega
      dsimp! only [id]
      (simp only [Go]; dsimp! only [id])
      refine c_lrun T (fw := true) (s := 0) (most := 80) hrc10 hbx10 c0 hprs fun q7 G11 _ h11 g11 => ?_
      have hrc11 := g11.kp _ _ hrc10
      have hbx11 := g11.kp _ _ hbx10
      dsimp! only [id]
      (simp only [Go]; dsimp! only [id])
      refine c_lrun T (fw := false) (s := at0) (most := 80) hrc11 hbx11 cp hprs fun q8 G12 _ h12 g12 => ?_
      have hrc12 := g12.kp _ _ hrc11
      have hbx12 := g12.kp _ _ hbx11
      have S12 := (b10.at_.grow g11).grow g12
      generalize hf : rn true rs 80 0 bs = rf
      generalize hb : rn false rs 80 at0 bs = rb
      have lf : rf.1 ≤ 80 := by rw [← hf]; exact rn_le
      have lb : rb.1 ≤ 80 := by rw [← hb]; exact rn_le
      dsimp! only [outD]
      (simp only [Go]; dsimp! only [id])
      refine draw_call S12 (by decide) (by decide) fun dv G13 b13 r13 r14 => ?_
      obtain ⟨dm, rfl⟩ := to_nat r13
      have hrc13 := b13.kp _ _ hrcs hrc12
      have hbx13 := b13.kp _ _ hbxs hbx12
      have ef : (if (rf.1 : Int) - 1 > 0 then (rf.1 : Int) - 1 else 0) = ((rf.1 - 1 : Nat) : Int) := by split <;> omega
      have eb : (if (rb.1 : Int) - 1 > 0 then (rb.1 : Int) - 1 else 0) = ((rb.1 - 1 : Nat) : Int) := by split <;> omega
      dsimp! only [ef, eb]
      clear hN
      refine ⟨by decide, fun p9 hp9 => ?_⟩
      obtain ⟨LL, hLL, hat1⟩ : ∃ LL : List Nat, [D.int 0, .int (dm : Int), .int (rf.1 : Int), .int ((rf.1 - 1 : Nat) : Int), .int (rb.1 : Int), .int ((rb.1 - 1 : Nat) : Int), .int 80] = LL.map (fun (n : Nat) => D.int (n : Int)) ∧ (∀ n ∈ LL, n ≤ 80) ∧ atI (LL.map (fun (n : Nat) => D.int (n : Int))) 1 = some (.int (dm : Int)) := by
        refine ⟨[0, dm, rf.1, rf.1 - 1, rb.1, rb.1 - 1, 80], rfl, fun n hn => ?_, rfl⟩
        simp only [List.mem_cons, List.not_mem_nil, or_false] at hn
        rcases hn with e | e | e | e | e | e | e <;> omega
      rw [hLL]
      have g14 : Grow G13 (gup G13 p9 (.lst (LL.map (fun (n : Nat) => D.int (n : Int))))) := Grow.refl.new hp9
      have h9 : gup G13 p9 (.lst (LL.map (fun (n : Nat) => D.int (n : Int)))) p9 = some (.lst (LL.map (fun (n : Nat) => D.int (n : Int)))) := gup_same
      generalize gup G13 p9 (.lst (LL.map (fun (n : Nat) => D.int (n : Int)))) = G14 at g14 h9 ⊢
      have hrc14 := g14.kp _ _ hrc13
      have hbx14 := g14.kp _ _ hbx13
      (simp only [Go]; dsimp! only [h9])
      refine forL_ind (fun r σ G' => ∃ (t : List Nat) (v10 v11 : Option D), r = t.map (fun (n : Nat) => D.int (n : Int)) ∧ (∀ n ∈ t, n ≤ 80) ∧ Grow G14 G' ∧ σ = [some (.ref a), some (.ref st), some (.int (sz : Int)), some (.int (m : Int)), some (.tup [.int (sz : Int), .ref rc]), some (.ref bx), some (.int (at0 : Int)), some (.tup [.str (wrd true rs rf.2.2 rf.2.1), .int (rf.2.1 : Int), .ref q7, .int (rf.1 : Int)]), some (.tup [.str (wrd false rs rb.2.2 rb.2.1), .int (rb.2.1 : Int), .ref q8, .int (rb.1 : Int)]), some (.ref p9), v10, v11, none])
        ⟨LL, none, none, rfl, hat1.1, Grow.refl, rfl⟩ ?_ ?_
      · rintro σ G' ⟨t, v10, v11, e, _, g, rfl⟩
        refine ⟨by rw [g.kp _ _ h9]; rfl, ?_⟩
        have hrc' := g.kp _ _ hrc14
        have hbx' := g.kp _ _ hbx14
        (simp only [Go]; dsimp! only [g.kp _ _ h9, hat1.2])
        refine c_runF T (most := dm) hrc' hbx' c0 hprs fun q G16 nq hq g16 => ?_
        have hbk := rn_back hprs (n := dm) (rn true rs dm 0 bs).1 c0 (Nat.le_refl _)
        have cr := rn_cde (fw := true) hprs (n := dm) c0
        generalize rn true rs dm 0 bs = rr at hq hbk cr ⊢
        dsimp! only [outD]
        (simp only [Go]; dsimp! only [id])
        refine c_runB T (s := rr.2.1) (most := rr.1) (g16.kp _ _ hrc') hq cr hprs fun q' G17 nq' hq' g17 => ?_
        rw [hbk, Nat.sub_self] at hq' ⊢
        dsimp! only [outD]
        refine ⟨by decide, by decide, ?_⟩
        exact cmp_out3 (i := 0) (j := (rr.1 : Int)) (ks := bs) (by rw [hq']; rfl) (by rw [(g16.trans g17).kp _ _ hbx']; rfl) (post _)
      · rintro z r σ G' ⟨t, v10, v11, e, ht, g, rfl⟩ ih
        cases t with
        | nil => cases e
        | cons mo t =>
          cases e
          refine ⟨by rw [g.kp _ _ h9]; rfl, ?_⟩
          have hrc' := g.kp _ _ hrc14
          have hbx' := g.kp _ _ hbx14
          dsimp! only [hbx']
          intro p11 hp11
          have g1 : ∀ {o : DO}, Grow G' (gup G' p11 o) := Grow.refl.new hp11
          (simp only [Go]; dsimp! only [id])
          refine c_runF T (most := mo) (g1.kp _ _ hrc') gup_same c0 hprs fun qa Ga na hqa ga => ?_
          have ga' := g1.trans ga
          dsimp! only [id]
          refine c_lrun T (fw := true) (s := 0) (most := mo) (ga'.kp _ _ hrc') (ga'.kp _ _ hbx') c0 hprs fun qb Gb _ hqb gb => ?_
          have gb' := ga'.trans gb
          dsimp! only [id]
          refine c_same T (gb.kp _ _ hqa) hqb (rlen true mo 0 c0) fun Gc gc => ?_
          have gc' := gb'.trans gc
          have hp11c : Gc p11 = some (.lst (bs.map .int)) := gc.kp _ _ (gb.kp _ _ (ga.kp _ _ gup_same))
          dsimp! only [id]
          (simp only [Go]; dsimp! only [id])
          refine c_runB T (s := at0) (most := mo) (gc'.kp _ _ hrc') hp11c cp hprs fun qd Gd nd hqd gd => ?_
          have gd' := gc'.trans gd
          dsimp! only [id]
          refine c_lrun T (fw := false) (s := at0) (most := mo) (gd'.kp _ _ hrc') (gd'.kp _ _ hbx') cp hprs fun qe Ge _ hqe ge => ?_
          have ge' := gd'.trans ge
          dsimp! only [id]
          refine c_same T (ge.kp _ _ hqd) hqe (rlen false mo at0 cp) fun Gf gf => ?_
          have gf' := ge'.trans gf
          have hp11f : Gf p11 = some (.lst (bs.map .int)) := gf.kp _ _ (ge.kp _ _ (gd.kp _ _ hp11c))
          dsimp! only [id]
          (simp only [Go]; dsimp! only [id])
          refine cmp_ints (ks := bs) (ms := bs) (by rw [hp11f]; rfl) (by rw [gf'.kp _ _ hbx']; rfl) ?_
          dsimp! only [id]
          exact ih _ _ ⟨t, _, _, rfl, fun n hn => ht n (List.mem_cons_of_mem _ hn), g.trans gf', rfl⟩
    refine ite_d (fun hv => ?_) (fun hv => ?_)
    · refine draw_call a1.at_ (by decide) (by decide) fun v2 G2 a2 p2 q2 => ?_
      obtain ⟨m, hm⟩ : ∃ m : Nat, 3 + v2 = (m : Int) := ⟨(3 + v2).toNat, by omega⟩
      dsimp! only [hm]
      refine call_nd (post := fun d G' => d = .bl true ∧ Grow G2 G') (fun R h => ⟨m, rfl, by omega, by omega, fun G' g => h _ _ ⟨rfl, g⟩⟩) ?_
      rintro d G3 ⟨rfl, g3⟩
      dsimp! only [id]
      exact key G3 (a2.at_.grow g3)
    · exact key G1 a1.at_
end
end Law

namespace Law
open PySem PySem.Spec PyProof.Rows L2 L3
/-- no list among the module's own objects -/
noncomputable def noL : PySem.W.Frag → Bool
  | [] => true
  | p :: r => (match p.2.data with | .seq _ _ => (match p.2.cls with | .type s => !(s == "list") | _ => true) | _ => true) && noL r
theorem noL_of : ∀ {K : PySem.W.Frag} {a : Addr} {o : Obj} {its : Array Value} {n : Nat}, noL K = true → K.lookup a = some o → o.cls = .type "list" → o.data = .seq its n → False
  | [], a, o, its, n, _, e, _, _ => by cases e
  | p :: r, a, o, its, n, h, e, h1, h2 => by
    unfold noL at h
    rw [Bool.and_eq_true] at h
    rw [List.lookup_cons] at e
    split at e
    · cases e
      have q := h.1
      rw [h2] at q
      simp only [h1] at q
      exact absurd q (by decide)
    · exact noL_of h.2 e h1 h2
theorem ar1 {P : List Value → Prop} (h : ∀ a0, P [a0]) : ∀ us : List Value, us.length = 1 → P us
  | [a0], _ => h a0
theorem ar2 {P : List Value → Prop} (h : ∀ a0 a1, P [a0, a1]) : ∀ us : List Value, us.length = 2 → P us
  | [a0, a1], _ => h a0 a1
theorem ar3 {P : List Value → Prop} (h : ∀ a0 a1 a2, P [a0, a1, a2]) : ∀ us : List Value, us.length = 3 → P us
  | [a0, a1, a2], _ => h a0 a1 a2
theorem ar4 {P : List Value → Prop} (h : ∀ a0 a1 a2 a3, P [a0, a1, a2, a3]) : ∀ us : List Value, us.length = 4 → P us
  | [a0, a1, a2, a3], _ => h a0 a1 a2 a3
theorem ar5 {P : List Value → Prop} (h : ∀ a0 a1 a2 a3 a4, P [a0, a1, a2, a3, a4]) : ∀ us : List Value, us.length = 5 → P us
  | [a0, a1, a2, a3, a4], _ => h a0 a1 a2 a3 a4
noncomputable def fnAt_mk {K : PySem.W.Frag} {x qual : Str} {st : Stmt} {ps : List Str} {f : Addr} {oc : Value} {od an : Option Addr} {osl : Array (Option Value)} {kV doc pm cdv ct : Value} (l : K.lookup f = some ⟨oc, od, .func (PySem.W.fnOf x qual (defArgs st) (defBody st) (defScope st) .none kV doc pm an cdv ct), osl⟩)
    (c : PySem.W.codeIn K cdv qual = true) (k : PySem.W.keepIn K (.ref f) = true) (hb : ∀ us : List Value, us.length = ps.length → bindArgs (PySem.W.fnOf x qual (defArgs st) (defBody st) (defScope st) .none kV doc pm an cdv ct) ⟨us, []⟩ = pure (ps.zip us)) : FnAt K x qual st ps :=
  ⟨f, _, ⟨oc, od, .none, kV, doc, pm, an, cdv, ct, osl, rfl, l, c⟩, k, .all hb⟩
noncomputable def spLaw3 : Sp3 := fun ds G R => ∃ (a : Addr) (ns : List Int), ds = [.ref a] ∧ G a = some (.fro (ns.map .int)) ∧ ns.length ≤ 63 ∧ ∀ G', R (.bl true) G'
theorem rel_ints {K : PySem.W.Frag} {H : Hp} : ∀ ns : List Int, RelDs K H (ns.map D.int) (ns.map V.int)
  | [] => .nil
  | _ :: ns => .cons RelD.intI (rel_ints ns)
theorem law_sp {K : PySem.W.Frag} {H : Hp} {a : Addr} {ns : List Int} (hL : noL K = true) (hl : ns.length ≤ 63) (hO : Only H) (hS : SqL K H a (ns.map V.int)) : lowSp K spLaw3 [.ref a] H (fun v _ => v = .bl true) fun _ _ _ => False := by
  have ha : ∃ o, H a = some (.frz o (.lst (ns.map V.int))) := by
    rcases hS with (h | h) | ⟨o, its, n, h1, h2, _, h3, _⟩
    · rcases hO a with z | ⟨o, xs, z⟩
      · rw [h] at z; cases z
      · rw [h] at z; cases z
    · exact h
    · exact (noL_of hL h1 h2 h3).elim
  obtain ⟨o, ha⟩ := ha
  refine ⟨[.ref a], gup (fun _ => none) a (.fro (ns.map .int)), fun d _ => d = .bl true, .cons ?_ .nil, fun b u e => ?_, ⟨a, ns, rfl, gup_same, hl, fun _ => rfl⟩, fun d G' v H' r _ _ e => ?_⟩
  · rw [RelD]
  · by_cases hb : b = a
    · subst hb
      rw [gup_same] at e
      cases e
      exact ⟨o, _, ha, rel_ints ns⟩
    · rw [gup_ne hb] at e; cases e
  · subst e
    rw [RelD] at r
    exact r
end Law
namespace Law
open PySem PySem.Spec PyProof.Rows L2 L3 Rw
set_option maxHeartbeats 4000000
theorem txt_mk {K : PySem.W.Frag} {h : Heap} {mg : Str → Option Value} (X : K.In h) (G : h.Ns mainGlobals mg) {C_Ride : Addr} 
    {p_Ride_init : Addr} {od_Ride_init an_Ride_init : Option Addr} {sl_Ride_init : Array (Option Value)} {oc_Ride_init kV_Ride_init dc_Ride_init pm_Ride_init cd_Ride_init ct_Ride_init : Value}
    {td_Ride_init : Addr} {to_Ride_init : Obj} {tn_Ride_init : Nat} {tt_Ride_init : Tok}
    {p_Ride_place : Addr} {od_Ride_place an_Ride_place : Option Addr} {sl_Ride_place : Array (Option Value)} {oc_Ride_place kV_Ride_place dc_Ride_place pm_Ride_place cd_Ride_place ct_Ride_place : Value}
    {p_Ride_boxes : Addr} {od_Ride_boxes an_Ride_boxes : Option Addr} {sl_Ride_boxes : Array (Option Value)} {oc_Ride_boxes kV_Ride_boxes dc_Ride_boxes pm_Ride_boxes cd_Ride_boxes ct_Ride_boxes : Value}
    {p_Ride_forth : Addr} {od_Ride_forth an_Ride_forth : Option Addr} {sl_Ride_forth : Array (Option Value)} {oc_Ride_forth kV_Ride_forth dc_Ride_forth pm_Ride_forth cd_Ride_forth ct_Ride_forth : Value}
    {p_Ride_back : Addr} {od_Ride_back an_Ride_back : Option Addr} {sl_Ride_back : Array (Option Value)} {oc_Ride_back kV_Ride_back dc_Ride_back pm_Ride_back cd_Ride_back ct_Ride_back : Value}
    {p_Ride_at_end : Addr} {od_Ride_at_end an_Ride_at_end : Option Addr} {sl_Ride_at_end : Array (Option Value)} {oc_Ride_at_end kV_Ride_at_end dc_Ride_at_end pm_Ride_at_end cd_Ride_at_end ct_Ride_at_end : Value}
    {p_Ride_at_begin : Addr} {od_Ride_at_begin an_Ride_at_begin : Option Addr} {sl_Ride_at_begin : Array (Option Value)} {oc_Ride_at_begin kV_Ride_at_begin dc_Ride_at_begin pm_Ride_at_begin cd_Ride_at_begin ct_Ride_at_begin : Value}
    {p_Ride_may_forth : Addr} {od_Ride_may_forth an_Ride_may_forth : Option Addr} {sl_Ride_may_forth : Array (Option Value)} {oc_Ride_may_forth kV_Ride_may_forth dc_Ride_may_forth pm_Ride_may_forth cd_Ride_may_forth ct_Ride_may_forth : Value}
    {p_Ride_may_back : Addr} {od_Ride_may_back an_Ride_may_back : Option Addr} {sl_Ride_may_back : Array (Option Value)} {oc_Ride_may_back kV_Ride_may_back dc_Ride_may_back pm_Ride_may_back cd_Ride_may_back ct_Ride_may_back : Value}
    {p_holds : Addr} {od_holds an_holds : Option Addr} {sl_holds : Array (Option Value)} {oc_holds kV_holds dc_holds pm_holds cd_holds ct_holds : Value}
    {p_change : Addr} {od_change an_change : Option Addr} {sl_change : Array (Option Value)} {oc_change kV_change dc_change pm_change cd_change ct_change : Value}
    {p_operand_value : Addr} {od_operand_value an_operand_value : Option Addr} {sl_operand_value : Array (Option Value)} {oc_operand_value kV_operand_value dc_operand_value pm_operand_value cd_operand_value ct_operand_value : Value}
    {p_turn_bit : Addr} {od_turn_bit an_turn_bit : Option Addr} {sl_turn_bit : Array (Option Value)} {oc_turn_bit kV_turn_bit dc_turn_bit pm_turn_bit cd_turn_bit ct_turn_bit : Value}
    {p_run_forth : Addr} {od_run_forth an_run_forth : Option Addr} {sl_run_forth : Array (Option Value)} {oc_run_forth kV_run_forth dc_run_forth pm_run_forth cd_run_forth ct_run_forth : Value}
    {p_run_back : Addr} {od_run_back an_run_back : Option Addr} {sl_run_back : Array (Option Value)} {oc_run_back kV_run_back dc_run_back pm_run_back cd_run_back ct_run_back : Value}
    {p_word_of : Addr} {od_word_of an_word_of : Option Addr} {sl_word_of : Array (Option Value)} {oc_word_of kV_word_of dc_word_of pm_word_of cd_word_of ct_word_of : Value}
    {p_law_draw : Addr} {od_law_draw an_law_draw : Option Addr} {sl_law_draw : Array (Option Value)} {oc_law_draw kV_law_draw dc_law_draw pm_law_draw cd_law_draw ct_law_draw : Value}
    {p_law_number : Addr} {od_law_number an_law_number : Option Addr} {sl_law_number : Array (Option Value)} {oc_law_number kV_law_number dc_law_number pm_law_number cd_law_number ct_law_number : Value}
    {p_law_other : Addr} {od_law_other an_law_other : Option Addr} {sl_law_other : Array (Option Value)} {oc_law_other kV_law_other dc_law_other pm_law_other cd_law_other ct_law_other : Value}
    {p_law_plain_row : Addr} {od_law_plain_row an_law_plain_row : Option Addr} {sl_law_plain_row : Array (Option Value)} {oc_law_plain_row kV_law_plain_row dc_law_plain_row pm_law_plain_row cd_law_plain_row ct_law_plain_row : Value}
    {p_law_bit : Addr} {od_law_bit an_law_bit : Option Addr} {sl_law_bit : Array (Option Value)} {oc_law_bit kV_law_bit dc_law_bit pm_law_bit cd_law_bit ct_law_bit : Value}
    {p_law_code : Addr} {od_law_code an_law_code : Option Addr} {sl_law_code : Array (Option Value)} {oc_law_code kV_law_code dc_law_code pm_law_code cd_law_code ct_law_code : Value}
    {p_law_boxes : Addr} {od_law_boxes an_law_boxes : Option Addr} {sl_law_boxes : Array (Option Value)} {oc_law_boxes kV_law_boxes dc_law_boxes pm_law_boxes cd_law_boxes ct_law_boxes : Value}
    {p_law_value : Addr} {od_law_value an_law_value : Option Addr} {sl_law_value : Array (Option Value)} {oc_law_value kV_law_value dc_law_value pm_law_value cd_law_value ct_law_value : Value}
    {p_law_done : Addr} {od_law_done an_law_done : Option Addr} {sl_law_done : Array (Option Value)} {oc_law_done kV_law_done dc_law_done pm_law_done cd_law_done ct_law_done : Value}
    {p_law_forth : Addr} {od_law_forth an_law_forth : Option Addr} {sl_law_forth : Array (Option Value)} {oc_law_forth kV_law_forth dc_law_forth pm_law_forth cd_law_forth ct_law_forth : Value}
    {p_law_back : Addr} {od_law_back an_law_back : Option Addr} {sl_law_back : Array (Option Value)} {oc_law_back kV_law_back dc_law_back pm_law_back cd_law_back ct_law_back : Value}
    {p_law_run : Addr} {od_law_run an_law_run : Option Addr} {sl_law_run : Array (Option Value)} {oc_law_run kV_law_run dc_law_run pm_law_run cd_law_run ct_law_run : Value}
    {p_law_same : Addr} {od_law_same an_law_same : Option Addr} {sl_law_same : Array (Option Value)} {oc_law_same kV_law_same dc_law_same pm_law_same cd_law_same ct_law_same : Value}
    {p_law_long : Addr} {od_law_long an_law_long : Option Addr} {sl_law_long : Array (Option Value)} {oc_law_long kV_law_long dc_law_long pm_law_long cd_law_long ct_law_long : Value}
    {p_law : Addr} {od_law an_law : Option Addr} {sl_law : Array (Option Value)} {oc_law kV_law dc_law pm_law cd_law ct_law : Value}
    {t_NUMBERS : Tok}
    (aC_Ride : PySem.W.nsIn K mainGlobals "Ride" = some (some (.ref C_Ride)))
    (a_Ride_init : PySem.W.findIn K (.ref C_Ride) "__init__" = some (some (.ref p_Ride_init)))
    (i_Ride_init : PySem.W.isFn K (.ref p_Ride_init) = true)
    (l_Ride_init : K.lookup p_Ride_init = some ⟨oc_Ride_init, od_Ride_init, .func (PySem.W.fnOf "__init__" "Ride.__init__" (defArgs s_Ride_init) (defBody s_Ride_init) (defScope s_Ride_init) (.ref td_Ride_init) kV_Ride_init dc_Ride_init pm_Ride_init an_Ride_init cd_Ride_init ct_Ride_init), sl_Ride_init⟩)
    (c_Ride_init : PySem.W.codeIn K cd_Ride_init "Ride.__init__" = true)
    (k_Ride_init : PySem.W.keepIn K (.ref p_Ride_init) = true)
    (dl_Ride_init : K.lookup td_Ride_init = some to_Ride_init)
    (ds_Ride_init : to_Ride_init.data = .seq #[.int 0 tt_Ride_init] tn_Ride_init)
    (a_Ride_place : PySem.W.findIn K (.ref C_Ride) "place" = some (some (.ref p_Ride_place)))
    (i_Ride_place : PySem.W.isFn K (.ref p_Ride_place) = true)
    (l_Ride_place : K.lookup p_Ride_place = some ⟨oc_Ride_place, od_Ride_place, .func (PySem.W.fnOf "place" "Ride.place" (defArgs s_Ride_place) (defBody s_Ride_place) (defScope s_Ride_place) .none kV_Ride_place dc_Ride_place pm_Ride_place an_Ride_place cd_Ride_place ct_Ride_place), sl_Ride_place⟩)
    (c_Ride_place : PySem.W.codeIn K cd_Ride_place "Ride.place" = true)
    (k_Ride_place : PySem.W.keepIn K (.ref p_Ride_place) = true)
    (a_Ride_boxes : PySem.W.findIn K (.ref C_Ride) "boxes" = some (some (.ref p_Ride_boxes)))
    (i_Ride_boxes : PySem.W.isFn K (.ref p_Ride_boxes) = true)
    (l_Ride_boxes : K.lookup p_Ride_boxes = some ⟨oc_Ride_boxes, od_Ride_boxes, .func (PySem.W.fnOf "boxes" "Ride.boxes" (defArgs s_Ride_boxes) (defBody s_Ride_boxes) (defScope s_Ride_boxes) .none kV_Ride_boxes dc_Ride_boxes pm_Ride_boxes an_Ride_boxes cd_Ride_boxes ct_Ride_boxes), sl_Ride_boxes⟩)
    (c_Ride_boxes : PySem.W.codeIn K cd_Ride_boxes "Ride.boxes" = true)
    (k_Ride_boxes : PySem.W.keepIn K (.ref p_Ride_boxes) = true)
    (a_Ride_forth : PySem.W.findIn K (.ref C_Ride) "forth" = some (some (.ref p_Ride_forth)))
    (i_Ride_forth : PySem.W.isFn K (.ref p_Ride_forth) = true)
    (l_Ride_forth : K.lookup p_Ride_forth = some ⟨oc_Ride_forth, od_Ride_forth, .func (PySem.W.fnOf "forth" "Ride.forth" (defArgs s_Ride_forth) (defBody s_Ride_forth) (defScope s_Ride_forth) .none kV_Ride_forth dc_Ride_forth pm_Ride_forth an_Ride_forth cd_Ride_forth ct_Ride_forth), sl_Ride_forth⟩)
    (c_Ride_forth : PySem.W.codeIn K cd_Ride_forth "Ride.forth" = true)
    (k_Ride_forth : PySem.W.keepIn K (.ref p_Ride_forth) = true)
    (a_Ride_back : PySem.W.findIn K (.ref C_Ride) "back" = some (some (.ref p_Ride_back)))
    (i_Ride_back : PySem.W.isFn K (.ref p_Ride_back) = true)
    (l_Ride_back : K.lookup p_Ride_back = some ⟨oc_Ride_back, od_Ride_back, .func (PySem.W.fnOf "back" "Ride.back" (defArgs s_Ride_back) (defBody s_Ride_back) (defScope s_Ride_back) .none kV_Ride_back dc_Ride_back pm_Ride_back an_Ride_back cd_Ride_back ct_Ride_back), sl_Ride_back⟩)
    (c_Ride_back : PySem.W.codeIn K cd_Ride_back "Ride.back" = true)
    (k_Ride_back : PySem.W.keepIn K (.ref p_Ride_back) = true)
    (a_Ride_at_end : PySem.W.findIn K (.ref C_Ride) "at_end" = some (some (.ref p_Ride_at_end)))
    (i_Ride_at_end : PySem.W.isFn K (.ref p_Ride_at_end) = true)
    (l_Ride_at_end : K.lookup p_Ride_at_end = some ⟨oc_Ride_at_end, od_Ride_at_end, .func (PySem.W.fnOf "at_end" "Ride.at_end" (defArgs s_Ride_at_end) (defBody s_Ride_at_end) (defScope s_Ride_at_end) .none kV_Ride_at_end dc_Ride_at_end pm_Ride_at_end an_Ride_at_end cd_Ride_at_end ct_Ride_at_end), sl_Ride_at_end⟩)
    (c_Ride_at_end : PySem.W.codeIn K cd_Ride_at_end "Ride.at_end" = true)
    (k_Ride_at_end : PySem.W.keepIn K (.ref p_Ride_at_end) = true)
    (a_Ride_at_begin : PySem.W.findIn K (.ref C_Ride) "at_begin" = some (some (.ref p_Ride_at_begin)))
    (i_Ride_at_begin : PySem.W.isFn K (.ref p_Ride_at_begin) = true)
    (l_Ride_at_begin : K.lookup p_Ride_at_begin = some ⟨oc_Ride_at_begin, od_Ride_at_begin, .func (PySem.W.fnOf "at_begin" "Ride.at_begin" (defArgs s_Ride_at_begin) (defBody s_Ride_at_begin) (defScope s_Ride_at_begin) .none kV_Ride_at_begin dc_Ride_at_begin pm_Ride_at_begin an_Ride_at_begin cd_Ride_at_begin ct_Ride_at_begin), sl_Ride_at_begin⟩)
    (c_Ride_at_begin : PySem.W.codeIn K cd_Ride_at_begin "Ride.at_begin" = true)
    (k_Ride_at_begin : PySem.W.keepIn K (.ref p_Ride_at_begin) = true)
    (a_Ride_may_forth : PySem.W.findIn K (.ref C_Ride) "may_forth" = some (some (.ref p_Ride_may_forth)))
    (i_Ride_may_forth : PySem.W.isFn K (.ref p_Ride_may_forth) = true)
    (l_Ride_may_forth : K.lookup p_Ride_may_forth = some ⟨oc_Ride_may_forth, od_Ride_may_forth, .func (PySem.W.fnOf "may_forth" "Ride.may_forth" (defArgs s_Ride_may_forth) (defBody s_Ride_may_forth) (defScope s_Ride_may_forth) .none kV_Ride_may_forth dc_Ride_may_forth pm_Ride_may_forth an_Ride_may_forth cd_Ride_may_forth ct_Ride_may_forth), sl_Ride_may_forth⟩)
    (c_Ride_may_forth : PySem.W.codeIn K cd_Ride_may_forth "Ride.may_forth" = true)
    (k_Ride_may_forth : PySem.W.keepIn K (.ref p_Ride_may_forth) = true)
    (a_Ride_may_back : PySem.W.findIn K (.ref C_Ride) "may_back" = some (some (.ref p_Ride_may_back)))
    (i_Ride_may_back : PySem.W.isFn K (.ref p_Ride_may_back) = true)
    (l_Ride_may_back : K.lookup p_Ride_may_back = some ⟨oc_Ride_may_back, od_Ride_may_back, .func (PySem.W.fnOf "may_back" "Ride.may_back" (defArgs s_Ride_may_back) (defBody s_Ride_may_back) (defScope s_Ride_may_back) .none kV_Ride_may_back dc_Ride_may_back pm_Ride_may_back an_Ride_may_back cd_Ride_may_back ct_Ride_may_back), sl_Ride_may_back⟩)
    (c_Ride_may_back : PySem.W.codeIn K cd_Ride_may_back "Ride.may_back" = true)
    (k_Ride_may_back : PySem.W.keepIn K (.ref p_Ride_may_back) = true)
    (a_holds : PySem.W.nsIn K mainGlobals "holds" = some (some (.ref p_holds)))
    (l_holds : K.lookup p_holds = some ⟨oc_holds, od_holds, .func (PySem.W.fnOf "holds" "holds" (defArgs s_holds) (defBody s_holds) (defScope s_holds) .none kV_holds dc_holds pm_holds an_holds cd_holds ct_holds), sl_holds⟩)
    (c_holds : PySem.W.codeIn K cd_holds "holds" = true)
    (k_holds : PySem.W.keepIn K (.ref p_holds) = true)
    (a_change : PySem.W.nsIn K mainGlobals "change" = some (some (.ref p_change)))
    (l_change : K.lookup p_change = some ⟨oc_change, od_change, .func (PySem.W.fnOf "change" "change" (defArgs s_change) (defBody s_change) (defScope s_change) .none kV_change dc_change pm_change an_change cd_change ct_change), sl_change⟩)
    (c_change : PySem.W.codeIn K cd_change "change" = true)
    (k_change : PySem.W.keepIn K (.ref p_change) = true)
    (a_operand_value : PySem.W.nsIn K mainGlobals "operand_value" = some (some (.ref p_operand_value)))
    (l_operand_value : K.lookup p_operand_value = some ⟨oc_operand_value, od_operand_value, .func (PySem.W.fnOf "operand_value" "operand_value" (defArgs s_operand_value) (defBody s_operand_value) (defScope s_operand_value) .none kV_operand_value dc_operand_value pm_operand_value an_operand_value cd_operand_value ct_operand_value), sl_operand_value⟩)
    (c_operand_value : PySem.W.codeIn K cd_operand_value "operand_value" = true)
    (k_operand_value : PySem.W.keepIn K (.ref p_operand_value) = true)
    (a_turn_bit : PySem.W.nsIn K mainGlobals "turn_bit" = some (some (.ref p_turn_bit)))
    (l_turn_bit : K.lookup p_turn_bit = some ⟨oc_turn_bit, od_turn_bit, .func (PySem.W.fnOf "turn_bit" "turn_bit" (defArgs s_turn_bit) (defBody s_turn_bit) (defScope s_turn_bit) .none kV_turn_bit dc_turn_bit pm_turn_bit an_turn_bit cd_turn_bit ct_turn_bit), sl_turn_bit⟩)
    (c_turn_bit : PySem.W.codeIn K cd_turn_bit "turn_bit" = true)
    (k_turn_bit : PySem.W.keepIn K (.ref p_turn_bit) = true)
    (a_run_forth : PySem.W.nsIn K mainGlobals "run_forth" = some (some (.ref p_run_forth)))
    (l_run_forth : K.lookup p_run_forth = some ⟨oc_run_forth, od_run_forth, .func (PySem.W.fnOf "run_forth" "run_forth" (defArgs s_run_forth) (defBody s_run_forth) (defScope s_run_forth) .none kV_run_forth dc_run_forth pm_run_forth an_run_forth cd_run_forth ct_run_forth), sl_run_forth⟩)
    (c_run_forth : PySem.W.codeIn K cd_run_forth "run_forth" = true)
    (k_run_forth : PySem.W.keepIn K (.ref p_run_forth) = true)
    (a_run_back : PySem.W.nsIn K mainGlobals "run_back" = some (some (.ref p_run_back)))
    (l_run_back : K.lookup p_run_back = some ⟨oc_run_back, od_run_back, .func (PySem.W.fnOf "run_back" "run_back" (defArgs s_run_back) (defBody s_run_back) (defScope s_run_back) .none kV_run_back dc_run_back pm_run_back an_run_back cd_run_back ct_run_back), sl_run_back⟩)
    (c_run_back : PySem.W.codeIn K cd_run_back "run_back" = true)
    (k_run_back : PySem.W.keepIn K (.ref p_run_back) = true)
    (a_word_of : PySem.W.nsIn K mainGlobals "word_of" = some (some (.ref p_word_of)))
    (l_word_of : K.lookup p_word_of = some ⟨oc_word_of, od_word_of, .func (PySem.W.fnOf "word_of" "word_of" (defArgs s_word_of) (defBody s_word_of) (defScope s_word_of) .none kV_word_of dc_word_of pm_word_of an_word_of cd_word_of ct_word_of), sl_word_of⟩)
    (c_word_of : PySem.W.codeIn K cd_word_of "word_of" = true)
    (k_word_of : PySem.W.keepIn K (.ref p_word_of) = true)
    (a_law_draw : PySem.W.nsIn K mainGlobals "_law_draw" = some (some (.ref p_law_draw)))
    (l_law_draw : K.lookup p_law_draw = some ⟨oc_law_draw, od_law_draw, .func (PySem.W.fnOf "_law_draw" "_law_draw" (defArgs s_law_draw) (defBody s_law_draw) (defScope s_law_draw) .none kV_law_draw dc_law_draw pm_law_draw an_law_draw cd_law_draw ct_law_draw), sl_law_draw⟩)
    (c_law_draw : PySem.W.codeIn K cd_law_draw "_law_draw" = true)
    (k_law_draw : PySem.W.keepIn K (.ref p_law_draw) = true)
    (a_law_number : PySem.W.nsIn K mainGlobals "_law_number" = some (some (.ref p_law_number)))
    (l_law_number : K.lookup p_law_number = some ⟨oc_law_number, od_law_number, .func (PySem.W.fnOf "_law_number" "_law_number" (defArgs s_law_number) (defBody s_law_number) (defScope s_law_number) .none kV_law_number dc_law_number pm_law_number an_law_number cd_law_number ct_law_number), sl_law_number⟩)
    (c_law_number : PySem.W.codeIn K cd_law_number "_law_number" = true)
    (k_law_number : PySem.W.keepIn K (.ref p_law_number) = true)
    (a_law_other : PySem.W.nsIn K mainGlobals "_law_other" = some (some (.ref p_law_other)))
    (l_law_other : K.lookup p_law_other = some ⟨oc_law_other, od_law_other, .func (PySem.W.fnOf "_law_other" "_law_other" (defArgs s_law_other) (defBody s_law_other) (defScope s_law_other) .none kV_law_other dc_law_other pm_law_other an_law_other cd_law_other ct_law_other), sl_law_other⟩)
    (c_law_other : PySem.W.codeIn K cd_law_other "_law_other" = true)
    (k_law_other : PySem.W.keepIn K (.ref p_law_other) = true)
    (a_law_plain_row : PySem.W.nsIn K mainGlobals "_law_plain_row" = some (some (.ref p_law_plain_row)))
    (l_law_plain_row : K.lookup p_law_plain_row = some ⟨oc_law_plain_row, od_law_plain_row, .func (PySem.W.fnOf "_law_plain_row" "_law_plain_row" (defArgs s_law_plain_row) (defBody s_law_plain_row) (defScope s_law_plain_row) .none kV_law_plain_row dc_law_plain_row pm_law_plain_row an_law_plain_row cd_law_plain_row ct_law_plain_row), sl_law_plain_row⟩)
    (c_law_plain_row : PySem.W.codeIn K cd_law_plain_row "_law_plain_row" = true)
    (k_law_plain_row : PySem.W.keepIn K (.ref p_law_plain_row) = true)
    (a_law_bit : PySem.W.nsIn K mainGlobals "_law_bit" = some (some (.ref p_law_bit)))
    (l_law_bit : K.lookup p_law_bit = some ⟨oc_law_bit, od_law_bit, .func (PySem.W.fnOf "_law_bit" "_law_bit" (defArgs s_law_bit) (defBody s_law_bit) (defScope s_law_bit) .none kV_law_bit dc_law_bit pm_law_bit an_law_bit cd_law_bit ct_law_bit), sl_law_bit⟩)
    (c_law_bit : PySem.W.codeIn K cd_law_bit "_law_bit" = true)
    (k_law_bit : PySem.W.keepIn K (.ref p_law_bit) = true)
    (a_law_code : PySem.W.nsIn K mainGlobals "_law_code" = some (some (.ref p_law_code)))
    (l_law_code : K.lookup p_law_code = some ⟨oc_law_code, od_law_code, .func (PySem.W.fnOf "_law_code" "_law_code" (defArgs s_law_code) (defBody s_law_code) (defScope s_law_code) .none kV_law_code dc_law_code pm_law_code an_law_code cd_law_code ct_law_code), sl_law_code⟩)
    (c_law_code : PySem.W.codeIn K cd_law_code "_law_code" = true)
    (k_law_code : PySem.W.keepIn K (.ref p_law_code) = true)
    (a_law_boxes : PySem.W.nsIn K mainGlobals "_law_boxes" = some (some (.ref p_law_boxes)))
    (l_law_boxes : K.lookup p_law_boxes = some ⟨oc_law_boxes, od_law_boxes, .func (PySem.W.fnOf "_law_boxes" "_law_boxes" (defArgs s_law_boxes) (defBody s_law_boxes) (defScope s_law_boxes) .none kV_law_boxes dc_law_boxes pm_law_boxes an_law_boxes cd_law_boxes ct_law_boxes), sl_law_boxes⟩)
    (c_law_boxes : PySem.W.codeIn K cd_law_boxes "_law_boxes" = true)
    (k_law_boxes : PySem.W.keepIn K (.ref p_law_boxes) = true)
    (a_law_value : PySem.W.nsIn K mainGlobals "_law_value" = some (some (.ref p_law_value)))
    (l_law_value : K.lookup p_law_value = some ⟨oc_law_value, od_law_value, .func (PySem.W.fnOf "_law_value" "_law_value" (defArgs s_law_value) (defBody s_law_value) (defScope s_law_value) .none kV_law_value dc_law_value pm_law_value an_law_value cd_law_value ct_law_value), sl_law_value⟩)
    (c_law_value : PySem.W.codeIn K cd_law_value "_law_value" = true)
    (k_law_value : PySem.W.keepIn K (.ref p_law_value) = true)
    (a_law_done : PySem.W.nsIn K mainGlobals "_law_done" = some (some (.ref p_law_done)))
    (l_law_done : K.lookup p_law_done = some ⟨oc_law_done, od_law_done, .func (PySem.W.fnOf "_law_done" "_law_done" (defArgs s_law_done) (defBody s_law_done) (defScope s_law_done) .none kV_law_done dc_law_done pm_law_done an_law_done cd_law_done ct_law_done), sl_law_done⟩)
    (c_law_done : PySem.W.codeIn K cd_law_done "_law_done" = true)
    (k_law_done : PySem.W.keepIn K (.ref p_law_done) = true)
    (a_law_forth : PySem.W.nsIn K mainGlobals "_law_forth" = some (some (.ref p_law_forth)))
    (l_law_forth : K.lookup p_law_forth = some ⟨oc_law_forth, od_law_forth, .func (PySem.W.fnOf "_law_forth" "_law_forth" (defArgs s_law_forth) (defBody s_law_forth) (defScope s_law_forth) .none kV_law_forth dc_law_forth pm_law_forth an_law_forth cd_law_forth ct_law_forth), sl_law_forth⟩)
    (c_law_forth : PySem.W.codeIn K cd_law_forth "_law_forth" = true)
    (k_law_forth : PySem.W.keepIn K (.ref p_law_forth) = true)
    (a_law_back : PySem.W.nsIn K mainGlobals "_law_back" = some (some (.ref p_law_back)))
    (l_law_back : K.lookup p_law_back = some ⟨oc_law_back, od_law_back, .func (PySem.W.fnOf "_law_back" "_law_back" (defArgs s_law_back) (defBody s_law_back) (defScope s_law_back) .none kV_law_back dc_law_back pm_law_back an_law_back cd_law_back ct_law_back), sl_law_back⟩)
    (c_law_back : PySem.W.codeIn K cd_law_back "_law_back" = true)
    (k_law_back : PySem.W.keepIn K (.ref p_law_back) = true)
    (a_law_run : PySem.W.nsIn K mainGlobals "_law_run" = some (some (.ref p_law_run)))
    (l_law_run : K.lookup p_law_run = some ⟨oc_law_run, od_law_run, .func (PySem.W.fnOf "_law_run" "_law_run" (defArgs s_law_run) (defBody s_law_run) (defScope s_law_run) .none kV_law_run dc_law_run pm_law_run an_law_run cd_law_run ct_law_run), sl_law_run⟩)
    (c_law_run : PySem.W.codeIn K cd_law_run "_law_run" = true)
    (k_law_run : PySem.W.keepIn K (.ref p_law_run) = true)
    (a_law_same : PySem.W.nsIn K mainGlobals "_law_same" = some (some (.ref p_law_same)))
    (l_law_same : K.lookup p_law_same = some ⟨oc_law_same, od_law_same, .func (PySem.W.fnOf "_law_same" "_law_same" (defArgs s_law_same) (defBody s_law_same) (defScope s_law_same) .none kV_law_same dc_law_same pm_law_same an_law_same cd_law_same ct_law_same), sl_law_same⟩)
    (c_law_same : PySem.W.codeIn K cd_law_same "_law_same" = true)
    (k_law_same : PySem.W.keepIn K (.ref p_law_same) = true)
    (a_law_long : PySem.W.nsIn K mainGlobals "_law_long" = some (some (.ref p_law_long)))
    (l_law_long : K.lookup p_law_long = some ⟨oc_law_long, od_law_long, .func (PySem.W.fnOf "_law_long" "_law_long" (defArgs s_law_long) (defBody s_law_long) (defScope s_law_long) .none kV_law_long dc_law_long pm_law_long an_law_long cd_law_long ct_law_long), sl_law_long⟩)
    (c_law_long : PySem.W.codeIn K cd_law_long "_law_long" = true)
    (k_law_long : PySem.W.keepIn K (.ref p_law_long) = true)
    (a_law : PySem.W.nsIn K mainGlobals "law" = some (some (.ref p_law)))
    (l_law : K.lookup p_law = some ⟨oc_law, od_law, .func (PySem.W.fnOf "law" "law" (defArgs s_law) (defBody s_law) (defScope s_law) .none kV_law dc_law pm_law an_law cd_law ct_law), sl_law⟩)
    (c_law : PySem.W.codeIn K cd_law "law" = true)
    (k_law : PySem.W.keepIn K (.ref p_law) = true)
    (pg_Ride : PySem.W.plainGet K C_Ride Str.empty = true)
    (hd_Ride : PySem.W.hasDictIn K C_Ride = true)
    (po_Ride : PySem.W.plainOver K C_Ride = true)
    (sa_Ride : PySem.W.findIn K (.ref C_Ride) "__setattr__" = some (some (.builtin "object.__setattr__")))
    (mk_Ride : PySem.W.makesIn K C_Ride = true)
    (kc_Ride : PySem.W.keepIn K (.ref C_Ride) = true)
    (n_Ride_rows : PySem.W.findIn K (.ref C_Ride) "rows" = some none)
    (n_Ride_held : PySem.W.findIn K (.ref C_Ride) "held" = some none)
    (n_Ride_spot : PySem.W.findIn K (.ref C_Ride) "spot" = some none)
    (v_NUMBERS : PySem.W.nsIn K mainGlobals "NUMBERS" = some (some (.int 4294967296 t_NUMBERS)))
    (b_abs : PySem.W.nsIn K mainGlobals "abs" = some none)
    (b_all : PySem.W.nsIn K mainGlobals "all" = some none)
    (b_bool : PySem.W.nsIn K mainGlobals "bool" = some none)
    (b_divmod : PySem.W.nsIn K mainGlobals "divmod" = some none)
    (b_int : PySem.W.nsIn K mainGlobals "int" = some none)
    (b_isinstance : PySem.W.nsIn K mainGlobals "isinstance" = some none)
    (b_len : PySem.W.nsIn K mainGlobals "len" = some none)
    (b_list : PySem.W.nsIn K mainGlobals "list" = some none)
    (b_max : PySem.W.nsIn K mainGlobals "max" = some none)
    (b_range : PySem.W.nsIn K mainGlobals "range" = some none)
    (b_tuple : PySem.W.nsIn K mainGlobals "tuple" = some none) :
    ∃ T : Txt K mg, ∀ (s : Shared) (v : Value), BindsTo s T.f_law.fd ⟨[v], []⟩ [("_law_script", v)] := by
  let f_Ride_init : FnAt K "__init__" "Ride.__init__" s_Ride_init ["self", "code", "boxes", "place"] := ⟨p_Ride_init, _, ⟨_, _, _, _, _, _, _, _, _, _, rfl, l_Ride_init, c_Ride_init⟩, k_Ride_init, fun s us hX hl => match us, hl with | [_, _, _, _], _ => PySem.W.binds_K hX rfl dl_Ride_init ds_Ride_init rfl rfl⟩
  let f_Ride_place : FnAt K "place" "Ride.place" s_Ride_place ["self"] := fnAt_mk (st := s_Ride_place) l_Ride_place c_Ride_place k_Ride_place (ar1 fun _ => rfl)
  let f_Ride_boxes : FnAt K "boxes" "Ride.boxes" s_Ride_boxes ["self"] := fnAt_mk (st := s_Ride_boxes) l_Ride_boxes c_Ride_boxes k_Ride_boxes (ar1 fun _ => rfl)
  let f_Ride_forth : FnAt K "forth" "Ride.forth" s_Ride_forth ["self"] := fnAt_mk (st := s_Ride_forth) l_Ride_forth c_Ride_forth k_Ride_forth (ar1 fun _ => rfl)
  let f_Ride_back : FnAt K "back" "Ride.back" s_Ride_back ["self"] := fnAt_mk (st := s_Ride_back) l_Ride_back c_Ride_back k_Ride_back (ar1 fun _ => rfl)
  let f_Ride_at_end : FnAt K "at_end" "Ride.at_end" s_Ride_at_end ["self"] := fnAt_mk (st := s_Ride_at_end) l_Ride_at_end c_Ride_at_end k_Ride_at_end (ar1 fun _ => rfl)
  let f_Ride_at_begin : FnAt K "at_begin" "Ride.at_begin" s_Ride_at_begin ["self"] := fnAt_mk (st := s_Ride_at_begin) l_Ride_at_begin c_Ride_at_begin k_Ride_at_begin (ar1 fun _ => rfl)
  let f_Ride_may_forth : FnAt K "may_forth" "Ride.may_forth" s_Ride_may_forth ["self"] := fnAt_mk (st := s_Ride_may_forth) l_Ride_may_forth c_Ride_may_forth k_Ride_may_forth (ar1 fun _ => rfl)
  let f_Ride_may_back : FnAt K "may_back" "Ride.may_back" s_Ride_may_back ["self"] := fnAt_mk (st := s_Ride_may_back) l_Ride_may_back c_Ride_may_back k_Ride_may_back (ar1 fun _ => rfl)
  let f_holds : FnAt K "holds" "holds" s_holds ["row", "held"] := fnAt_mk (st := s_holds) l_holds c_holds k_holds (ar2 fun _ _ => rfl)
  let f_change : FnAt K "change" "change" s_change ["row", "held", "way"] := fnAt_mk (st := s_change) l_change c_change k_change (ar3 fun _ _ _ => rfl)
  let f_operand_value : FnAt K "operand_value" "operand_value" s_operand_value ["operand", "held"] := fnAt_mk (st := s_operand_value) l_operand_value c_operand_value k_operand_value (ar2 fun _ _ => rfl)
  let f_turn_bit : FnAt K "turn_bit" "turn_bit" s_turn_bit ["row", "held"] := fnAt_mk (st := s_turn_bit) l_turn_bit c_turn_bit k_turn_bit (ar2 fun _ _ => rfl)
  let f_run_forth : FnAt K "run_forth" "run_forth" s_run_forth ["code", "boxes", "most"] := fnAt_mk (st := s_run_forth) l_run_forth c_run_forth k_run_forth (ar3 fun _ _ _ => rfl)
  let f_run_back : FnAt K "run_back" "run_back" s_run_back ["code", "boxes", "place", "most"] := fnAt_mk (st := s_run_back) l_run_back c_run_back k_run_back (ar4 fun _ _ _ _ => rfl)
  let f_word_of : FnAt K "word_of" "word_of" s_word_of ["there", "there_word", "may_go_on"] := fnAt_mk (st := s_word_of) l_word_of c_word_of k_word_of (ar3 fun _ _ _ => rfl)
  let f_law_draw : FnAt K "_law_draw" "_law_draw" s_law_draw ["_law_state", "_law_many"] := fnAt_mk (st := s_law_draw) l_law_draw c_law_draw k_law_draw (ar2 fun _ _ => rfl)
  let f_law_number : FnAt K "_law_number" "_law_number" s_law_number ["_law_state"] := fnAt_mk (st := s_law_number) l_law_number c_law_number k_law_number (ar1 fun _ => rfl)
  let f_law_other : FnAt K "_law_other" "_law_other" s_law_other ["_law_state", "_law_size", "_law_x"] := fnAt_mk (st := s_law_other) l_law_other c_law_other k_law_other (ar3 fun _ _ _ => rfl)
  let f_law_plain_row : FnAt K "_law_plain_row" "_law_plain_row" s_law_plain_row ["_law_state", "_law_size"] := fnAt_mk (st := s_law_plain_row) l_law_plain_row c_law_plain_row k_law_plain_row (ar2 fun _ _ => rfl)
  let f_law_bit : FnAt K "_law_bit" "_law_bit" s_law_bit ["_law_state"] := fnAt_mk (st := s_law_bit) l_law_bit c_law_bit k_law_bit (ar1 fun _ => rfl)
  let f_law_code : FnAt K "_law_code" "_law_code" s_law_code ["_law_state", "_law_size", "_law_many", "_law_jumps"] := fnAt_mk (st := s_law_code) l_law_code c_law_code k_law_code (ar4 fun _ _ _ _ => rfl)
  let f_law_boxes : FnAt K "_law_boxes" "_law_boxes" s_law_boxes ["_law_state", "_law_size"] := fnAt_mk (st := s_law_boxes) l_law_boxes c_law_boxes k_law_boxes (ar2 fun _ _ => rfl)
  let f_law_value : FnAt K "_law_value" "_law_value" s_law_value ["_law_boxes_here", "_law_operand"] := fnAt_mk (st := s_law_value) l_law_value c_law_value k_law_value (ar2 fun _ _ => rfl)
  let f_law_done : FnAt K "_law_done" "_law_done" s_law_done ["_law_row", "_law_boxes_here", "_law_sign"] := fnAt_mk (st := s_law_done) l_law_done c_law_done k_law_done (ar3 fun _ _ _ => rfl)
  let f_law_forth : FnAt K "_law_forth" "_law_forth" s_law_forth ["_law_rows", "_law_at", "_law_boxes_here"] := fnAt_mk (st := s_law_forth) l_law_forth c_law_forth k_law_forth (ar3 fun _ _ _ => rfl)
  let f_law_back : FnAt K "_law_back" "_law_back" s_law_back ["_law_rows", "_law_at", "_law_boxes_here"] := fnAt_mk (st := s_law_back) l_law_back c_law_back k_law_back (ar3 fun _ _ _ => rfl)
  let f_law_run : FnAt K "_law_run" "_law_run" s_law_run ["_law_rows", "_law_forth_here", "_law_at", "_law_boxes_here", "_law_most"] := fnAt_mk (st := s_law_run) l_law_run c_law_run k_law_run (ar5 fun _ _ _ _ _ => rfl)
  let f_law_same : FnAt K "_law_same" "_law_same" s_law_same ["_law_found", "_law_due"] := fnAt_mk (st := s_law_same) l_law_same c_law_same k_law_same (ar2 fun _ _ => rfl)
  let f_law_long : FnAt K "_law_long" "_law_long" s_law_long ["_law_many"] := fnAt_mk (st := s_law_long) l_law_long c_law_long k_law_long (ar1 fun _ => rfl)
  let f_law : FnAt K "law" "law" s_law ["_law_script"] := fnAt_mk (st := s_law) l_law c_law k_law (ar1 fun _ => rfl)
  exact ⟨⟨f_Ride_init, f_Ride_place, f_Ride_boxes, f_Ride_forth, f_Ride_back, f_Ride_at_end, f_Ride_at_begin, f_Ride_may_forth, f_Ride_may_back, f_holds, PySem.W.mg_of X G a_holds, f_change, PySem.W.mg_of X G a_change, f_operand_value, PySem.W.mg_of X G a_operand_value, f_turn_bit, PySem.W.mg_of X G a_turn_bit, f_run_forth, PySem.W.mg_of X G a_run_forth, f_run_back, PySem.W.mg_of X G a_run_back, f_word_of, PySem.W.mg_of X G a_word_of, f_law_draw, PySem.W.mg_of X G a_law_draw, f_law_number, PySem.W.mg_of X G a_law_number, f_law_other, PySem.W.mg_of X G a_law_other, f_law_plain_row, PySem.W.mg_of X G a_law_plain_row, f_law_bit, PySem.W.mg_of X G a_law_bit, f_law_code, PySem.W.mg_of X G a_law_code, f_law_boxes, PySem.W.mg_of X G a_law_boxes, f_law_value, PySem.W.mg_of X G a_law_value, f_law_done, PySem.W.mg_of X G a_law_done, f_law_forth, PySem.W.mg_of X G a_law_forth, f_law_back, PySem.W.mg_of X G a_law_back, f_law_run, PySem.W.mg_of X G a_law_run, f_law_same, PySem.W.mg_of X G a_law_same, f_law_long, PySem.W.mg_of X G a_law_long, f_law, PySem.W.mg_of X G a_law, ⟨C_Ride, ⟨pg_Ride, hd_Ride, po_Ride, sa_Ride⟩, PySem.W.mg_of X G aC_Ride, n_Ride_rows, n_Ride_held, n_Ride_spot⟩, ⟨mk_Ride, a_Ride_init, i_Ride_init, kc_Ride⟩, ⟨tt_Ride_init, fun s us hX hl => (fun (hl2 : us.length = 3) => match us, hl2 with | [_, _, _], _ => PySem.W.binds_K hX rfl dl_Ride_init ds_Ride_init rfl rfl) (by simpa using hl)⟩, ⟨a_Ride_place, i_Ride_place, k_Ride_place⟩, ⟨a_Ride_boxes, i_Ride_boxes, k_Ride_boxes⟩, ⟨a_Ride_forth, i_Ride_forth, k_Ride_forth⟩, ⟨a_Ride_back, i_Ride_back, k_Ride_back⟩, ⟨a_Ride_at_end, i_Ride_at_end, k_Ride_at_end⟩, ⟨a_Ride_at_begin, i_Ride_at_begin, k_Ride_at_begin⟩, ⟨a_Ride_may_forth, i_Ride_may_forth, k_Ride_may_forth⟩, ⟨a_Ride_may_back, i_Ride_may_back, k_Ride_may_back⟩, ⟨t_NUMBERS, PySem.W.mg_of X G v_NUMBERS⟩, PySem.W.mg_none_of X G b_abs, PySem.W.mg_none_of X G b_all, PySem.W.mg_none_of X G b_bool, PySem.W.mg_none_of X G b_divmod, PySem.W.mg_none_of X G b_int, PySem.W.mg_none_of X G b_isinstance, PySem.W.mg_none_of X G b_len, PySem.W.mg_none_of X G b_list, PySem.W.mg_none_of X G b_max, PySem.W.mg_none_of X G b_range, PySem.W.mg_none_of X G b_tuple⟩, fun s v => .of_eq rfl⟩
theorem all_ok {P : Program} {w : World} {K : PySem.W.Frag} {mg : Str → Option Value} {base : Heap} (T : Txt K mg) : Ok P w mg base 6 T.f_law (S_law T) := by
  have H_Ride_init : Ok P w mg base 1 T.f_Ride_init (S_Ride_init T) := ok_Ride_init T (n := 0)
  have H_Ride_place : Ok P w mg base 1 T.f_Ride_place (S_Ride_place T) := ok_Ride_place T (n := 0)
  have H_Ride_boxes : Ok P w mg base 1 T.f_Ride_boxes (S_Ride_boxes T) := ok_Ride_boxes T (n := 0)
  have H_Ride_at_end : Ok P w mg base 1 T.f_Ride_at_end (S_Ride_at_end T) := ok_Ride_at_end T (n := 0)
  have H_holds : Ok P w mg base 1 T.f_holds (S_holds T) := ok_holds T (n := 0)
  have H_Ride_may_forth : Ok P w mg base 2 T.f_Ride_may_forth (S_Ride_may_forth T) := ok_Ride_may_forth T (n := 1) (FnOk.mono H_Ride_at_end (by decide)) (FnOk.mono H_holds (by decide))
  have H_operand_value : Ok P w mg base 1 T.f_operand_value (S_operand_value T) := ok_operand_value T (n := 0)
  have H_turn_bit : Ok P w mg base 1 T.f_turn_bit (S_turn_bit T) := ok_turn_bit T (n := 0)
  have H_change : Ok P w mg base 2 T.f_change (S_change T) := ok_change T (n := 1) (FnOk.mono H_operand_value (by decide)) (FnOk.mono H_turn_bit (by decide))
  have H_Ride_forth : Ok P w mg base 3 T.f_Ride_forth (S_Ride_forth T) := ok_Ride_forth T (n := 2) (FnOk.mono H_Ride_may_forth (by decide)) (FnOk.mono H_holds (by decide)) (FnOk.mono H_change (by decide))
  have H_word_of : Ok P w mg base 1 T.f_word_of (S_word_of T) := ok_word_of T (n := 0)
  have H_run_forth : Ok P w mg base 4 T.f_run_forth (S_run_forth T) := ok_run_forth T (n := 2) (FnOk.mono H_Ride_init (by decide)) (FnOk.mono H_Ride_place (by decide)) (FnOk.mono H_Ride_boxes (by decide)) (FnOk.mono H_Ride_forth (by decide)) (FnOk.mono H_Ride_at_end (by decide)) (FnOk.mono H_Ride_may_forth (by decide)) (FnOk.mono H_word_of (by decide))
  have H_Ride_at_begin : Ok P w mg base 1 T.f_Ride_at_begin (S_Ride_at_begin T) := ok_Ride_at_begin T (n := 0)
  have H_Ride_may_back : Ok P w mg base 2 T.f_Ride_may_back (S_Ride_may_back T) := ok_Ride_may_back T (n := 1) (FnOk.mono H_Ride_at_begin (by decide)) (FnOk.mono H_holds (by decide))
  have H_Ride_back : Ok P w mg base 3 T.f_Ride_back (S_Ride_back T) := ok_Ride_back T (n := 2) (FnOk.mono H_Ride_may_back (by decide)) (FnOk.mono H_holds (by decide)) (FnOk.mono H_change (by decide))
  have H_run_back : Ok P w mg base 4 T.f_run_back (S_run_back T) := ok_run_back T (n := 2) (FnOk.mono H_Ride_init (by decide)) (FnOk.mono H_Ride_place (by decide)) (FnOk.mono H_Ride_boxes (by decide)) (FnOk.mono H_Ride_back (by decide)) (FnOk.mono H_Ride_at_begin (by decide)) (FnOk.mono H_Ride_may_back (by decide)) (FnOk.mono H_word_of (by decide))
  have H_law_draw : Ok P w mg base 1 T.f_law_draw (S_law_draw T) := ok_law_draw T (n := 0)
  have H_law_number : Ok P w mg base 2 T.f_law_number (S_law_number T) := ok_law_number T (n := 1) (FnOk.mono H_law_draw (by decide))
  have H_law_other : Ok P w mg base 2 T.f_law_other (S_law_other T) := ok_law_other T (n := 1) (FnOk.mono H_law_draw (by decide))
  have H_law_bit : Ok P w mg base 2 T.f_law_bit (S_law_bit T) := ok_law_bit T (n := 1) (FnOk.mono H_law_draw (by decide))
  have H_law_plain_row : Ok P w mg base 3 T.f_law_plain_row (S_law_plain_row T) := ok_law_plain_row T (n := 2) (FnOk.mono H_law_draw (by decide)) (FnOk.mono H_law_number (by decide)) (FnOk.mono H_law_other (by decide)) (FnOk.mono H_law_bit (by decide))
  have H_law_code : Ok P w mg base 4 T.f_law_code (S_law_code T) := ok_law_code T (n := 3) (FnOk.mono H_law_draw (by decide)) (FnOk.mono H_law_number (by decide)) (FnOk.mono H_law_plain_row (by decide))
  have H_law_boxes : Ok P w mg base 3 T.f_law_boxes (S_law_boxes T) := ok_law_boxes T (n := 2) (FnOk.mono H_law_number (by decide))
  have H_law_value : Ok P w mg base 1 T.f_law_value (S_law_value T) := ok_law_value T (n := 0)
  have H_law_done : Ok P w mg base 2 T.f_law_done (S_law_done T) := ok_law_done T (n := 1) (FnOk.mono H_law_value (by decide))
  have H_law_forth : Ok P w mg base 3 T.f_law_forth (S_law_forth T) := ok_law_forth T (n := 2) (FnOk.mono H_law_done (by decide))
  have H_law_back : Ok P w mg base 3 T.f_law_back (S_law_back T) := ok_law_back T (n := 2) (FnOk.mono H_law_done (by decide))
  have H_law_run : Ok P w mg base 4 T.f_law_run (S_law_run T) := ok_law_run T (n := 3) (FnOk.mono H_law_forth (by decide)) (FnOk.mono H_law_back (by decide))
  have H_law_same : Ok P w mg base 1 T.f_law_same (S_law_same T) := ok_law_same T (n := 0)
  have H_law_long : Ok P w mg base 5 T.f_law_long (S_law_long T) := ok_law_long T (n := 4) (FnOk.mono H_run_forth (by decide)) (FnOk.mono H_run_back (by decide)) (FnOk.mono H_law_run (by decide)) (FnOk.mono H_law_same (by decide))
  have H_law : Ok P w mg base 6 T.f_law (S_law T) := ok_law T (n := 5) (FnOk.mono H_run_forth (by decide)) (FnOk.mono H_run_back (by decide)) (FnOk.mono H_law_draw (by decide)) (FnOk.mono H_law_code (by decide)) (FnOk.mono H_law_boxes (by decide)) (FnOk.mono H_law_run (by decide)) (FnOk.mono H_law_same (by decide)) (FnOk.mono H_law_long (by decide))
  exact H_law
theorem walk {l : PySem.W.OpenLaw} {q : Program} {loose : List Str} {XP : (Str → Option Value) → Heap → Prop} {YP : World → Heap → Prop} {d : DefRec} {K : Params → PySem.W.Frag} (hn : l.most = some 63) (hdf : d.params.defaults = [])
    (hY : ∀ (w : World) (h : Heap), YP w h → (K w.params).In h) (hL : ∀ w : World, noL (K w.params) = true)
    (F : ∀ (w : World) (mg : Str → Option Value) (fa : Addr) (h : Heap), (K w.params).In h → h.Ns mainGlobals mg → mg d.name = some (.ref fa) → ∃ T : Txt (K w.params) mg, ∀ (s : Shared) (v : Value), BindsTo s T.f_law.fd ⟨[v], []⟩ [("_law_script", v)]) (hdn : d.name = "law" := by rfl) :
    PySem.W.WalkO q loose XP YP l.row.toRowW d [] (fun f vs => PySem.call f vs) := by
  refine L2.walk_of (n := 63) (k := 6) (x := "_law_script") (CX := fun _ => CX0) (sp := fun w => lowSp (K w.params) spLaw3) hn (by decide) hdf ⟨rfl, by decide, by decide⟩ hY (fun w mg fa h hK hN hm => ?_) (fun w H a ns hl hO hS => law_sp (hL w) hl hO hS) fun _ _ _ _ _ z => z
  obtain ⟨T, hb⟩ := F w mg fa h hK hN hm
  rw [hdn] at hm
  have e := hm.symm.trans T.g_law
  cases e
  exact ⟨T.f_law.fd, hb, fun base _ _ => all_ok T⟩
end Law

noncomputable def PySem.W.Fast.tw12067984792441992305 : Nat := 0
noncomputable def PySem.W.Fast.tw2017393377443046676 : Nat := 0
noncomputable def PySem.W.Fast.tw15821227309268161754 : Nat := 0
noncomputable def PySem.W.Fast.tw3242890897942575754 : Nat := 0
noncomputable def PySem.W.Fast.tw15597375798503322393 : Nat := 0
noncomputable def PySem.W.Fast.tw5332070220307539830 : Nat := 0
noncomputable def PySem.W.Fast.tw13980041297573974991 : Nat := 0
noncomputable def PySem.W.Fast.tw2209802352083220716 : Nat := 0
open PySem PySem.W PyProof.Rows
set_option maxHeartbeats 0 in
theorem PySem.Challenge.cw_nolitter_k19_runs_holds : PySem.Challenge.rw_nolitter_k19_runs.Holds := by
  w_on; o_law; k_head; (case hw => w_witness2)
  k_fill
  refine Law.walk (l := PySem.Challenge.rw_nolitter_k19_runs) rfl rfl (fun w h Y => PySem.W.kIn_of Y) ?L ?F
  case L => exact fun w => rfl
  case F =>
    intro w mg fa h KX G hmg
    refine' Law.txt_mk KX G ?aC_Ride ?a_Ride_init ?i_Ride_init ?l_Ride_init ?c_Ride_init ?k_Ride_init ?dl_Ride_init ?ds_Ride_init ?a_Ride_place ?i_Ride_place ?l_Ride_place ?c_Ride_place ?k_Ride_place ?a_Ride_boxes ?i_Ride_boxes ?l_Ride_boxes ?c_Ride_boxes ?k_Ride_boxes ?a_Ride_forth ?i_Ride_forth ?l_Ride_forth ?c_Ride_forth ?k_Ride_forth ?a_Ride_back ?i_Ride_back ?l_Ride_back ?c_Ride_back ?k_Ride_back ?a_Ride_at_end ?i_Ride_at_end ?l_Ride_at_end ?c_Ride_at_end ?k_Ride_at_end ?a_Ride_at_begin ?i_Ride_at_begin ?l_Ride_at_begin ?c_Ride_at_begin ?k_Ride_at_begin ?a_Ride_may_forth ?i_Ride_may_forth ?l_Ride_may_forth ?c_Ride_may_forth ?k_Ride_may_forth ?a_Ride_may_back ?i_Ride_may_back ?l_Ride_may_back ?c_Ride_may_back ?k_Ride_may_back ?a_holds ?l_holds ?c_holds ?k_holds ?a_change ?l_change ?c_change ?k_change ?a_operand_value ?l_operand_value ?c_operand_value ?k_operand_value ?a_turn_bit ?l_turn_bit ?c_turn_bit ?k_turn_bit ?a_run_forth ?l_run_forth ?c_run_forth ?k_run_forth ?a_run_back ?l_run_back ?c_run_back ?k_run_back ?a_word_of ?l_word_of ?c_word_of ?k_word_of ?a_law_draw ?l_law_draw ?c_law_draw ?k_law_draw ?a_law_number ?l_law_number ?c_law_number ?k_law_number ?a_law_other ?l_law_other ?c_law_other ?k_law_other ?a_law_plain_row ?l_law_plain_row ?c_law_plain_row ?k_law_plain_row ?a_law_bit ?l_law_bit ?c_law_bit ?k_law_bit ?a_law_code ?l_law_code ?c_law_code ?k_law_code ?a_law_boxes ?l_law_boxes ?c_law_boxes ?k_law_boxes ?a_law_value ?l_law_value ?c_law_value ?k_law_value ?a_law_done ?l_law_done ?c_law_done ?k_law_done ?a_law_forth ?l_law_forth ?c_law_forth ?k_law_forth ?a_law_back ?l_law_back ?c_law_back ?k_law_back ?a_law_run ?l_law_run ?c_law_run ?k_law_run ?a_law_same ?l_law_same ?c_law_same ?k_law_same ?a_law_long ?l_law_long ?c_law_long ?k_law_long ?a_law ?l_law ?c_law ?k_law ?pg_Ride ?hd_Ride ?po_Ride ?sa_Ride ?mk_Ride ?kc_Ride ?n_Ride_rows ?n_Ride_held ?n_Ride_spot ?v_NUMBERS ?b_abs ?b_all ?b_bool ?b_divmod ?b_int ?b_isinstance ?b_len ?b_list ?b_max ?b_range ?b_tuple
    (case aC_Ride => k_is)
    (case a_Ride_init => k_is)
    (case i_Ride_init => k_is)
    (case l_Ride_init => k_is)
    (case c_Ride_init => k_is)
    (case k_Ride_init => k_is)
    (case dl_Ride_init => k_is)
    (case ds_Ride_init => exact rfl)
    (case a_Ride_place => k_is)
    (case i_Ride_place => k_is)
    (case l_Ride_place => k_is)
    (case c_Ride_place => k_is)
    (case k_Ride_place => k_is)
    (case a_Ride_boxes => k_is)
    (case i_Ride_boxes => k_is)
    (case l_Ride_boxes => k_is)
    (case c_Ride_boxes => k_is)
    (case k_Ride_boxes => k_is)
    (case a_Ride_forth => k_is)
    (case i_Ride_forth => k_is)
    (case l_Ride_forth => k_is)
    (case c_Ride_forth => k_is)
    (case k_Ride_forth => k_is)
    (case a_Ride_back => k_is)
    (case i_Ride_back => k_is)
    (case l_Ride_back => k_is)
    (case c_Ride_back => k_is)
    (case k_Ride_back => k_is)
    (case a_Ride_at_end => k_is)
    (case i_Ride_at_end => k_is)
    (case l_Ride_at_end => k_is)
    (case c_Ride_at_end => k_is)
    (case k_Ride_at_end => k_is)
    (case a_Ride_at_begin => k_is)
    (case i_Ride_at_begin => k_is)
    (case l_Ride_at_begin => k_is)
    (case c_Ride_at_begin => k_is)
    (case k_Ride_at_begin => k_is)
    (case a_Ride_may_forth => k_is)
    (case i_Ride_may_forth => k_is)
    (case l_Ride_may_forth => k_is)
    (case c_Ride_may_forth => k_is)
    (case k_Ride_may_forth => k_is)
    (case a_Ride_may_back => k_is)
    (case i_Ride_may_back => k_is)
    (case l_Ride_may_back => k_is)
    (case c_Ride_may_back => k_is)
    (case k_Ride_may_back => k_is)
    (case a_holds => k_is)
    (case l_holds => k_is)
    (case c_holds => k_is)
    (case k_holds => k_is)
    (case a_change => k_is)
    (case l_change => k_is)
    (case c_change => k_is)
    (case k_change => k_is)
    (case a_operand_value => k_is)
    (case l_operand_value => k_is)
    (case c_operand_value => k_is)
    (case k_operand_value => k_is)
    (case a_turn_bit => k_is)
    (case l_turn_bit => k_is)
    (case c_turn_bit => k_is)
    (case k_turn_bit => k_is)
    (case a_run_forth => k_is)
    (case l_run_forth => k_is)
    (case c_run_forth => k_is)
    (case k_run_forth => k_is)
    (case a_run_back => k_is)
    (case l_run_back => k_is)
    (case c_run_back => k_is)
    (case k_run_back => k_is)
    (case a_word_of => k_is)
    (case l_word_of => k_is)
    (case c_word_of => k_is)
    (case k_word_of => k_is)
    (case a_law_draw => k_is)
    (case l_law_draw => k_is)
    (case c_law_draw => k_is)
    (case k_law_draw => k_is)
    (case a_law_number => k_is)
    (case l_law_number => k_is)
    (case c_law_number => k_is)
    (case k_law_number => k_is)
    (case a_law_other => k_is)
    (case l_law_other => k_is)
    (case c_law_other => k_is)
    (case k_law_other => k_is)
    (case a_law_plain_row => k_is)
    (case l_law_plain_row => k_is)
    (case c_law_plain_row => k_is)
    (case k_law_plain_row => k_is)
    (case a_law_bit => k_is)
    (case l_law_bit => k_is)
    (case c_law_bit => k_is)
    (case k_law_bit => k_is)
    (case a_law_code => k_is)
    (case l_law_code => k_is)
    (case c_law_code => k_is)
    (case k_law_code => k_is)
    (case a_law_boxes => k_is)
    (case l_law_boxes => k_is)
    (case c_law_boxes => k_is)
    (case k_law_boxes => k_is)
    (case a_law_value => k_is)
    (case l_law_value => k_is)
    (case c_law_value => k_is)
    (case k_law_value => k_is)
    (case a_law_done => k_is)
    (case l_law_done => k_is)
    (case c_law_done => k_is)
    (case k_law_done => k_is)
    (case a_law_forth => k_is)
    (case l_law_forth => k_is)
    (case c_law_forth => k_is)
    (case k_law_forth => k_is)
    (case a_law_back => k_is)
    (case l_law_back => k_is)
    (case c_law_back => k_is)
    (case k_law_back => k_is)
    (case a_law_run => k_is)
    (case l_law_run => k_is)
    (case c_law_run => k_is)
    (case k_law_run => k_is)
    (case a_law_same => k_is)
    (case l_law_same => k_is)
    (case c_law_same => k_is)
    (case k_law_same => k_is)
    (case a_law_long => k_is)
    (case l_law_long => k_is)
    (case c_law_long => k_is)
    (case k_law_long => k_is)
    (case a_law => k_is)
    (case l_law => k_is)
    (case c_law => k_is)
    (case k_law => k_is)
    (case pg_Ride => k_is)
    (case hd_Ride => k_is)
    (case po_Ride => k_is)
    (case sa_Ride => k_is)
    (case mk_Ride => k_is)
    (case kc_Ride => k_is)
    (case n_Ride_rows => k_is)
    (case n_Ride_held => k_is)
    (case n_Ride_spot => k_is)
    (case v_NUMBERS => k_is)
    (case b_abs => k_is)
    (case b_all => k_is)
    (case b_bool => k_is)
    (case b_divmod => k_is)
    (case b_int => k_is)
    (case b_isinstance => k_is)
    (case b_len => k_is)
    (case b_list => k_is)
    (case b_max => k_is)
    (case b_range => k_is)
    (case b_tuple => k_is)

