import PyProof.Rows.All
import Wide.All
import OpenK.AllK
import Wide.FinOn
import Lean
import PyProof.EqAt
import PyProof.EqKinds
import PyProof.TupleCall
import PyProof.NeKinds
import PyProof.Rows.SeqMore
import PyProof.FactsAll.tuple_2
import KE.KDictOf
import PyProof.ExcInit
import PyProof.ExcClass3
import PyProof.NsDelKeeps
import PyProof.RulesAs
import PyProof.Rows.CountFlat
import PyProof.AutoListH
import KE.KIntText
import PyProof.Rows.CatFin
import PySem.Challenge.RW_nolitter_k01_names_and_rows
set_option Elab.async false
set_option linter.all false
set_option maxRecDepth 100000
/-! THE HAND LAYER, for ints, bools, texts, own classes, LISTS and tuples (index, slices, in, append, pop ..), calls, loops. Paste it whole ahead of your own text; what your proof does not reach may be deleted. -/
namespace L2
open PySem PySem.Spec PyProof.Rows

/-- a key: an int or a str -/
noncomputable abbrev Key := Sum Int Str
noncomputable def keyIs : Key → Value → Bool
  | .inl k, v => Value.isInt k v
  | .inr x, v => Value.isStrOf x v
noncomputable def keyH (w : World) : Key → Int
  | .inl k => hashInt k
  | .inr x => hashStr w x
theorem keyIs_shape : ∀ {k : Key} {v : Value}, keyIs k v = true → (∃ i t, k = Sum.inl i ∧ v = Value.int i t) ∨ (∃ x t, k = Sum.inr x ∧ v = Value.str x t)
  | .inl i, v, h => by
    obtain ⟨t, e⟩ := Value.isInt_shape (k := i) (v := v) h
    exact .inl ⟨i, t, rfl, e⟩
  | .inr x, v, h => by
    obtain ⟨t, e⟩ := Value.isStrOf_shape (x := x) (v := v) h
    exact .inr ⟨x, t, rfl, e⟩
theorem keyIs_int (i : Int) (t : Tok) : keyIs (.inl i) (.int i t) = true := by simp [keyIs, Value.isInt]
theorem keyIs_str (x : Str) (t : Tok) : keyIs (.inr x) (.str x t) = true := by simp [keyIs, Value.isStrOf]
theorem key_ll (a b : Int) : decide ((Sum.inl a : Key) = Sum.inl b) = (a == b) := by
  by_cases e : a = b
  · subst e; simp
  · have h : ¬ (Sum.inl a : Key) = Sum.inl b := fun q => e (Sum.inl.inj q)
    rw [decide_eq_false h]
    exact (beq_eq_false_iff_ne.mpr e).symm
theorem key_rr (a b : Str) : decide ((Sum.inr a : Key) = Sum.inr b) = decide (a = b) := by
  by_cases e : a = b
  · subst e; simp
  · have h : ¬ (Sum.inr a : Key) = Sum.inr b := fun q => e (Sum.inr.inj q)
    rw [decide_eq_false h, decide_eq_false e]
theorem key_lr (a : Int) (b : Str) : decide ((Sum.inl a : Key) = Sum.inr b) = false := decide_eq_false (fun q => nomatch q)
theorem key_rl (a : Str) (b : Int) : decide ((Sum.inr a : Key) = Sum.inl b) = false := decide_eq_false (fun q => nomatch q)

noncomputable def mixKind (prog : Program) (w : World) : PySem.KeyKind prog w Key where
  is := keyIs
  hash := keyH w
  inj := fun v a b ha hb => by
    rcases keyIs_shape ha with ⟨i, t, rfl, rfl⟩ | ⟨x, t, rfl, rfl⟩
    · rcases keyIs_shape hb with ⟨j, u, rfl, e⟩ | ⟨y, u, rfl, e⟩
      · injection e with e1 _; rw [e1]
      · exact nomatch e
    · rcases keyIs_shape hb with ⟨j, u, rfl, e⟩ | ⟨y, u, rfl, e⟩
      · exact nomatch e
      · injection e with e1 _; rw [e1]
  byValue := fun k v h => by
    rcases keyIs_shape h with ⟨i, t, rfl, rfl⟩ | ⟨x, t, rfl, rfl⟩ <;> rfl
  pyHash := fun hv h => by
    rcases keyIs_shape hv with ⟨i, t, rfl, rfl⟩ | ⟨x, t, rfl, rfl⟩
    · exact wpAny_pyHash_int h
    · exact wpAny_pyHash_str h
  eqBool := fun hu hv h => by
    rcases keyIs_shape hu with ⟨i, t, rfl, rfl⟩ | ⟨x, t, rfl, rfl⟩
    · rcases keyIs_shape hv with ⟨j, u, rfl, rfl⟩ | ⟨y, u, rfl, rfl⟩
      · rw [key_ll] at h; exact wpAny_eqBool_int h
      · rw [key_lr] at h; exact SeqAt.EqAt.int_str i t y u _ _ _ _ h
    · rcases keyIs_shape hv with ⟨j, u, rfl, rfl⟩ | ⟨y, u, rfl, rfl⟩
      · rw [key_rl] at h; exact SeqAt.EqAt.str_int x t j u _ _ _ _ h
      · rw [key_rr] at h; exact wpAny_eqBool_str h
  «strs» := fun k x t v h => by
    rcases keyIs_shape h with ⟨i, u, rfl, e⟩ | ⟨y, u, rfl, e⟩
    · exact nomatch e
    · injection e with e1 _
      subst e1
      cases v <;> rfl

theorem mixKind_int (prog : Program) (w : World) (i : Int) (t : Tok) : (mixKind prog w).is (.inl i) (.int i t) = true := keyIs_int i t
theorem mixKind_str (prog : Program) (w : World) (x : Str) (t : Tok) : (mixKind prog w).is (.inr x) (.str x t) = true := keyIs_str x t
end L2

namespace L2
open PySem PySem.Spec PyProof.Rows

/-- a value, without the heap -/
inductive V where
  | non | bl (b : Bool) | int (i : Int) | str (x : Str) | byt (b : Array UInt8) | flt (b : UInt64) | ref (a : Addr) | ty (n : String)
  deriving DecidableEq

noncomputable def RelV : V → Value → Prop
  | .non, u => u = Value.none
  | .bl b, u => u = Value.bool b
  | .int i, u => ∃ t, u = Value.int i t
  | .str x, u => ∃ t, u = Value.str x t
  | .byt b, u => ∃ t, u = Value.bytes b t
  | .flt b, u => ∃ t, u = Value.float b t
  | .ref a, u => u = Value.ref a
  | .ty n, u => u = Value.type n

noncomputable abbrev Vals : List V → List Value → Prop := Paired RelV
theorem Vals.length {xs : List V} {us : List Value} (r : Vals xs us) : xs.length = us.length := Paired.length r
theorem Vals.get : ∀ {xs : List V} {us : List Value} {i : Nat} {x : V}, Vals xs us → xs[i]? = some x → ∃ u, us[i]? = some u ∧ RelV x u
  | _, _, _, _, .nil, e => by simp at e
  | _, _, 0, _, .cons r _, e => by simp at e; subst e; exact ⟨_, rfl, r⟩
  | _, _, i + 1, x, .cons _ t, e => by
    obtain ⟨u, h1, h2⟩ := Vals.get (i := i) (x := x) t (by simpa using e)
    exact ⟨u, by simpa using h1, h2⟩
theorem Vals.set {x : V} {u : Value} (r : RelV x u) : ∀ {xs : List V} {us : List Value} (i : Nat), Vals xs us → Vals (xs.set i x) (us.set i u)
  | _, _, _, .nil => .nil
  | _, _, 0, .cons _ t => .cons r t
  | _, _, i + 1, .cons q t => .cons q (Vals.set r i t)
theorem Vals.append : ∀ {xs ys : List V} {us ws : List Value}, Vals xs us → Vals ys ws → Vals (xs ++ ys) (us ++ ws)
  | _, _, _, _, .nil, s => s
  | _, _, _, _, .cons r t, s => .cons r (Vals.append t s)
theorem Vals.take : ∀ {xs : List V} {us : List Value} (n : Nat), Vals xs us → Vals (xs.take n) (us.take n)
  | _, _, 0, _ => .nil
  | _, _, _ + 1, .nil => .nil
  | _, _, n + 1, .cons r t => .cons r (Vals.take n t)
theorem Vals.drop : ∀ {xs : List V} {us : List Value} (n : Nat), Vals xs us → Vals (xs.drop n) (us.drop n)
  | _, _, 0, r => r
  | _, _, _ + 1, .nil => .nil
  | _, _, n + 1, .cons _ t => Vals.drop n t
theorem Vals.none_of : ∀ {xs : List V} {us : List Value} {i : Nat}, Vals xs us → xs[i]? = none → us[i]? = none := fun {xs us i} r e => by
  have h1 := r.length
  have h2 : xs.length ≤ i := List.getElem?_eq_none_iff.mp e
  exact List.getElem?_eq_none_iff.mpr (by omega)

noncomputable def RelO : Option V → Option Value → Prop
  | some v, some u => RelV v u
  | none, none => True
  | _, _ => False
noncomputable def KV {κ : Type} : List (κ × V) → List (κ × Value) → Prop := Paired fun (p : κ × V) (q : κ × Value) => p.1 = q.1 ∧ RelV p.2 q.2

/-- a key of a dict (00_mix): an int or a text -/
noncomputable def kV : Key → V
  | .inl i => .int i
  | .inr x => .str x

/-- what stands at a tracked address -/
inductive HO where
  /-- a list -/
  | lst (xs : List V)
  /-- a tuple (never changes) -/
  | tup (xs : List V)
  /-- a dict whose keys are ints and texts; one whose keys are tuples of ints and texts (the empty one is both) -/
  | dK (kvs : List (Key × V)) | dT (kvs : List (List Key × V))
  /-- a set of ints: its members, its size -/
  | set (S : Int → Bool) (n : Nat)
  /-- an instance of the class at C, its dict at dx, its attributes -/
  | ins (C dx : Addr) (fs : List (Str × V))
  /-- the dict of the instance at x -/
  | own (x : Addr)
  /-- the dict of an exception -/
  | xd (fs : List (Str × V))
  /-- a bound method, f of x -/
  | met (f x : Addr)
  /-- a range object lo, lo + 1, .. below hi -/
  | rng (lo hi : Int)
  /-- a thing that is known to the object (the script; a dict while a loop walks it): read, never written while it is so -/
  | frz (o : Obj) (u : HO)
  /-- a code object's table -/
  | tbl (ps : Array Value)
  /-- any other thing, by what is true of its one object (a def of one's own: SetO a S n := HO.ext fun h => ..) -/
  | ext (φ : Heap → Prop)

noncomputable abbrev Hp := Addr → Option HO
noncomputable def upd (H : Hp) (a : Addr) (o : HO) : Hp := fun b => if b = a then some o else H b
theorem upd_same {H : Hp} {a : Addr} {o : HO} : upd H a o a = some o := by unfold upd; rw [if_pos rfl]
theorem upd_ne {H : Hp} {a b : Addr} {o : HO} (h : b ≠ a) : upd H a o b = H b := by unfold upd; rw [if_neg h]
/-- two objects of different content stand apart -/
theorem ne_of {H : Hp} {a b : Addr} {o u : HO} (h : H a = some o) (h' : H b = some u) (d : o ≠ u) : a ≠ b := by
  intro e; subst e; rw [h] at h'; exact d (Option.some.inj h')
theorem ne_of_none {H : Hp} {a b : Addr} {o : HO} (h : H a = some o) (h' : H b = none) : a ≠ b := by
  intro e; subst e; rw [h] at h'; cases h'

section
variable (P : Program) (w : World)
noncomputable def TupD (h : Heap) (a : Addr) (its : Array Value) : Prop := ∃ o, h.get? a = some o ∧ o.cls = .type "tuple" ∧ (∃ n, o.data = .seq its n) ∧ o.dict = none
theorem TupD.tup {h : Heap} {a : Addr} {its : Array Value} (x : TupD h a its) : IsTup h a its := let ⟨o, e, c, d, _⟩ := x; ⟨o, e, c, d⟩
theorem TupD.new (h : Heap) (its : Array Value) : TupD (h.push { cls := .type "tuple", data := .seq its }) h.objs.size its := ⟨_, Heap.get?_push_size _ rfl, rfl, ⟨_, rfl⟩, rfl⟩
noncomputable def ObjOk (H : Hp) (h : Heap) (a : Addr) : HO → Prop
  | .lst xs => xs.length ≤ sizeLine ∧ ∃ (its : List Value) (n : Nat), Vals xs its ∧ h.get? a = some { cls := .type "list", data := .seq its.toArray n }
  | .tup xs => xs.length ≤ sizeLine ∧ ∃ its : List Value, Vals xs its ∧ TupD h a its.toArray
  | .dK kvs => kvs.length ≤ sizeLine ∧ (a == sysModules) = false ∧ ∃ vs, KV kvs vs ∧ h.DictOf (mixKind P w) a vs
  | .dT kvs => kvs.length ≤ sizeLine ∧ (a == sysModules) = false ∧ ∃ xs : List (List Key × Addr × Value),
      Paired (fun (p : List Key × V) (q : List Key × Addr × Value) => p.1 = q.1 ∧ H q.2.1 = some (.tup (p.1.map kV)) ∧ RelV p.2 q.2.2) kvs xs ∧
      ∃ o es ep, h.get? a = some o ∧ o.ExactDict ∧ o.data = .dict es ep ∧ es.toList = xs.map (entryOfKey (tupleKind (mixKind P w))) ∧ (xs.map (·.1)).Nodup
  | .set S n => h.SetOf (intKind P w) a S n
  | .ins C dx fs => H dx = some (.own a) ∧ fs.length ≤ 1000 ∧ dx ≠ a ∧ h.get? a = some (PySem.W.instObj C dx) ∧
      ∃ mA, h.Ns1 dx mA ∧ (∀ f, RelO (fs.lookup f) (mA f)) ∧ PySem.Within mA (fs.map (·.1))
  | .own _ => ∃ o, h.get? a = some o
  | .xd fs => ∃ mA, h.Ns1 a mA ∧ ∀ f, RelO (fs.lookup f) (mA f)
  | .rng lo hi => ∃ t u v, h.get? a = some { cls := .type "range", data := .fields #[.int lo t, .int hi u, .int 1 v] }
  | .frz o u => h.get? a = some o ∧ ObjOk H h a u
  | .tbl ps => h.get? a = some { cls := .none, data := .fields ps }
  | .met f x => h.get? a = some (PySem.W.methodObj (.ref f) (.ref x))
  | .ext φ => φ h ∧ (∃ o, h.get? a = some o) ∧ ∀ h1 h2 : Heap, φ h1 → (∀ o, h1.get? a = some o → h2.get? a = some o) → φ h2
/-- the abstract heap is held -/
noncomputable def HOk (H : Hp) (h : Heap) : Prop := ∀ a o, H a = some o → ObjOk P w H h a o
end

section
variable {P : Program} {w : World} {H H' : Hp} {h h' : Heap} {a : Addr} {o : HO}
theorem ObjOk.lt (x : ObjOk P w H h a o) : a < h.objs.size := by
  cases o with
  | lst xs => obtain ⟨_, _, _, _, e⟩ := x; exact Heap.lt_size e
  | tup xs => obtain ⟨_, _, _, p⟩ := x; exact p.tup.lt
  | dK kvs => obtain ⟨_, _, _, _, o, _, _, e, _⟩ := x; exact Heap.lt_size e
  | dT kvs => obtain ⟨_, _, _, _, o, _, _, e, _⟩ := x; exact Heap.lt_size e
  | set S n => obtain ⟨o, _, _, _, e, _⟩ := x; exact Heap.lt_size e
  | ins C dx fs => obtain ⟨_, _, _, e, _⟩ := x; exact Heap.lt_size e
  | own y => obtain ⟨_, e⟩ := x; exact Heap.lt_size e
  | xd fs => obtain ⟨_, ⟨_, _, _, e, _⟩, _⟩ := x; exact Heap.lt_size e
  | rng lo hi => obtain ⟨_, _, _, e⟩ := x; exact Heap.lt_size e
  | frz ob u => obtain ⟨e, _⟩ := x; exact Heap.lt_size e
  | tbl ps => exact Heap.lt_size (show h.get? a = some _ from x)
  | met f y => exact Heap.lt_size (show h.get? a = some _ from x)
  | ext φ => obtain ⟨_, ⟨_, e⟩, _⟩ := x; exact Heap.lt_size e
theorem Paired.mapP {α β : Type} {F G : α → β → Prop} : ∀ {l₁ : List α} {l₂ : List β}, Paired F l₁ l₂ → (∀ a b, F a b → G a b) → Paired G l₁ l₂
  | _, _, .nil, _ => .nil
  | _, _, .cons r t, f => .cons (f _ _ r) (Paired.mapP t f)
/-- what an object's description leans on: its own object, its own dict, the tuples -/
theorem ObjOk.stay (x : ObjOk P w H h a o) (k : ∀ b u, (b = a ∨ H b = some (.own a)) → h.get? b = some u → h'.get? b = some u)
    (ho : ∀ b, H b = some (.own a) → H' b = some (.own a)) (ht : ∀ b xs, H b = some (.tup xs) → H' b = some (.tup xs)) : ObjOk P w H' h' a o := by
  induction o with
  | lst xs => obtain ⟨z, its, n, r, e⟩ := x; exact ⟨z, its, n, r, k _ _ (.inl rfl) e⟩
  | tup xs => obtain ⟨z, its, r, ob, e, c⟩ := x; exact ⟨z, its, r, ob, k _ _ (.inl rfl) e, c⟩
  | dK kvs => obtain ⟨z, y, vs, r, ob, es, ep, e, c⟩ := x; exact ⟨z, y, vs, r, ob, es, ep, k _ _ (.inl rfl) e, c⟩
  | dT kvs =>
    obtain ⟨z, y, xs, r, ob, es, ep, e, c⟩ := x
    exact ⟨z, y, xs, Paired.mapP r fun p q z => ⟨z.1, ht _ _ z.2.1, z.2.2⟩, ob, es, ep, k _ _ (.inl rfl) e, c⟩
  | set S n => obtain ⟨ob, es, ep, t, e, c⟩ := x; exact ⟨ob, es, ep, t, k _ _ (.inl rfl) e, c⟩
  | ins C dx fs =>
    obtain ⟨d, z, ne, e, mA, ⟨od, es, ep, e2, c⟩, r⟩ := x
    exact ⟨ho _ d, z, ne, k _ _ (.inl rfl) e, mA, ⟨od, es, ep, k _ _ (.inr d) e2, c⟩, r⟩
  | own y => obtain ⟨ob, e⟩ := x; exact ⟨ob, k _ _ (.inl rfl) e⟩
  | xd fs => obtain ⟨mA, ⟨od, es, ep, e, c⟩, r⟩ := x; exact ⟨mA, ⟨od, es, ep, k _ _ (.inl rfl) e, c⟩, r⟩
  | rng lo hi => obtain ⟨t, u, v, e⟩ := x; exact ⟨t, u, v, k _ _ (.inl rfl) e⟩
  | frz ob u ih => obtain ⟨e, q⟩ := x; exact ⟨k _ _ (.inl rfl) e, ih q⟩
  | tbl ps =>
    have e : h.get? a = some { cls := .none, data := .fields ps } := x
    show h'.get? a = some { cls := .none, data := .fields ps }
    exact k a _ (.inl rfl) e
  | met f y =>
    have e : h.get? a = some (PySem.W.methodObj (.ref f) (.ref y)) := x
    show h'.get? a = some (PySem.W.methodObj (.ref f) (.ref y))
    exact k a _ (.inl rfl) e
  | ext φ => obtain ⟨p, ⟨o, e⟩, st⟩ := x; exact ⟨st _ _ p fun o q => k _ _ (.inl rfl) q, ⟨o, k _ _ (.inl rfl) e⟩, st⟩
theorem HOk.lt (x : HOk P w H h) (e : H a = some o) : a < h.objs.size := (x a o e).lt
theorem HOk.fresh (x : HOk P w H h) (e : h.objs.size ≤ a) : H a = none := by
  cases q : H a with
  | none => rfl
  | some u => exact absurd (Nat.lt_of_lt_of_le (x.lt q) e) (Nat.lt_irrefl _)
/-- every object of the heap is kept -/
theorem HOk.kept (x : HOk P w H h) (k : ∀ b u, h.get? b = some u → h'.get? b = some u) : HOk P w H h' := fun a o e =>
  (x a o e).stay (fun b u _ q => k b u q) (fun _ q => q) fun _ _ q => q
/-- a new object is laid and tracked -/
theorem HOk.laid (x : HOk P w H h) (k : ∀ b u, h.get? b = some u → h'.get? b = some u) (hp : h.objs.size ≤ a) (new : ObjOk P w (upd H a o) h' a o) : HOk P w (upd H a o) h' := fun b u e => by
  have hn := x.fresh hp
  by_cases hb : b = a
  · subst hb; rw [upd_same] at e; cases e; exact new
  · rw [upd_ne hb] at e
    exact (x b u e).stay (fun c v _ q => k c v q) (fun c q => by rw [upd_ne (ne_of_none q hn)]; exact q) fun c xs q => by rw [upd_ne (ne_of_none q hn)]; exact q
end

/-- what may be read as u: it is u, or a known u -/
noncomputable def Rd (H : Hp) (a : Addr) (u : HO) : Prop := H a = some u ∨ ∃ o, H a = some (.frz o u)
theorem Rd.of {H : Hp} {a : Addr} {u : HO} (h : H a = some u) : Rd H a u := .inl h
theorem Rd.ok {P : Program} {w : World} {H : Hp} {h : Heap} {a : Addr} {u : HO} (r : Rd H a u) (x : HOk P w H h) : ObjOk P w H h a u := by
  rcases r with r | ⟨o, r⟩
  · exact x a u r
  · obtain ⟨_, q⟩ := x a _ r
    exact q
/-- what may be written -/
noncomputable def Mut : Option HO → Prop
  | some (.lst _) => True
  | some (.dK _) => True
  | some (.dT _) => True
  | some (.set _ _) => True
  | some (.ins _ _ _) => True
  | some (.ext _) => True
  | _ => False
section
variable {P : Program} {w : World} {H : Hp} {h h' : Heap} {x e : Addr} {o' : HO}
/-- the object at e is changed: x itself, or the dict of the instance x -/
theorem HOk.write (ok : HOk P w H h) (mu : Mut (H x)) (he : e = x ∨ H e = some (.own x)) (k : ∀ b u, b ≠ e → h.get? b = some u → h'.get? b = some u) (heo : ∃ u, h'.get? e = some u)
    (new : ObjOk P w (upd H x o') h' x o') : HOk P w (upd H x o') h' := fun b u q => by
  have nown : ∀ c y, H c = some (.own y) → c ≠ x := fun c y r z => by subst z; rw [r] at mu; exact mu
  have ntup : ∀ c xs, H c = some (.tup xs) → c ≠ x := fun c xs r z => by subst z; rw [r] at mu; exact mu
  by_cases hb : b = x
  · subst hb; rw [upd_same] at q; cases q; exact new
  · rw [upd_ne hb] at q
    by_cases hbe : b = e
    · have q' : H b = some (.own x) := by
        rcases he with z | z
        · exact absurd (hbe.trans z) hb
        · rw [hbe]; exact z
      rw [q] at q'; cases q'
      obtain ⟨v, hv⟩ := heo
      exact ⟨v, by rw [hbe]; exact hv⟩
    · refine (ok b u q).stay (fun c v hc r => k c v ?_ r) (fun c r => by rw [upd_ne (nown c b r)]; exact r) fun c xs r => by rw [upd_ne (ntup c xs r)]; exact r
      rcases hc with rfl | hc
      · exact hbe
      · rintro rfl
        rcases he with z | z
        · exact nown c b hc z
        · rw [hc] at z; cases z; exact hb rfl
end

/-! ### kept unless tracked; of the frames at fs (the callers') the slots may change (an exception that passes writes there); of the records at ex (iterators) nothing is said -/
structure Un (fs ex : List Addr) (H H' : Hp) (h h' : Heap) : Prop where
  keep : ∀ b o, h.get? b = some o → H b = none → b ∉ fs → b ∉ ex → h'.get? b = some o
  slot : ∀ b o, h.get? b = some o → H b = none → b ∈ fs → b ∉ ex → ∃ sl, h'.get? b = some { o with slots := sl }
  free : ∀ b o, h.get? b = some o → H b = none → b ∉ ex → H' b = none
  there : ∀ b o, h.get? b = some o → b ∉ ex → ∃ o', h'.get? b = some o'
  tups : ∀ b xs, H b = some (.tup xs) → H' b = some (.tup xs)
  frzs : ∀ b o u, H b = some (.frz o u) → H' b = some (.frz o u)
  tbls : ∀ b ps, H b = some (.tbl ps) → ∃ more, H' b = some (.tbl (ps ++ more))
section
variable {fs fs' ex ex' : List Addr} {H H1 H2 : Hp} {h h1 h2 h' : Heap} {a x e : Addr} {o : HO}
theorem Un.any (u : Un fs ex H H1 h h1) {b : Addr} {ob : Obj} (q : h.get? b = some ob) (n : H b = none) (hx : b ∉ ex) : ∃ sl, h1.get? b = some { ob with slots := sl } := by
  by_cases hb : b ∈ fs
  · exact u.slot b ob q n hb hx
  · exact ⟨ob.slots, u.keep b ob q n hb hx⟩
theorem Un.trans (a : Un fs ex H H1 h h1) (b : Un fs ex H1 H2 h1 h2) : Un fs ex H H2 h h2 where
  keep := fun c ob q n hc hx => b.keep c ob (a.keep c ob q n hc hx) (a.free c ob q n hx) hc hx
  slot := fun c ob q n hc hx => by
    obtain ⟨sl, e1⟩ := a.slot c ob q n hc hx
    obtain ⟨sl', e2⟩ := b.slot c _ e1 (a.free c ob q n hx) hc hx
    exact ⟨sl', e2⟩
  free := fun c ob q n hx => by
    obtain ⟨o', e1⟩ := a.there c ob q hx
    exact b.free c o' e1 (a.free c ob q n hx) hx
  there := fun c ob q hx => by
    obtain ⟨o', e1⟩ := a.there c ob q hx
    exact b.there c o' e1 hx
  tups := fun c xs q => b.tups c xs (a.tups c xs q)
  frzs := fun c ob xs q => b.frzs c ob xs (a.frzs c ob xs q)
  tbls := fun c ps q => by
    obtain ⟨m1, e1⟩ := a.tbls c ps q
    obtain ⟨m2, e2⟩ := b.tbls c _ e1
    exact ⟨m1 ++ m2, by rw [e2, Array.append_assoc]⟩
theorem Un.kept (k : ∀ b u, h.get? b = some u → h'.get? b = some u) : Un fs ex H H h h' :=
  ⟨fun b ob q _ _ _ => k b ob q, fun b ob q _ _ _ => ⟨ob.slots, k b ob q⟩, fun _ _ _ n _ => n, fun b ob q _ => ⟨ob, k b ob q⟩, fun _ _ q => q, fun _ _ _ q => q, fun _ ps q => ⟨#[], by rw [q]; simp⟩⟩
theorem Un.refl : Un fs ex H H h h := Un.kept fun _ _ q => q
theorem Un.laid (k : ∀ b u, h.get? b = some u → h'.get? b = some u) (hp : h.objs.size ≤ a) (hn : H a = none) : Un fs ex H (upd H a o) h h' where
  keep := fun b u q _ _ _ => k b u q
  slot := fun b u q _ _ _ => ⟨u.slots, k b u q⟩
  free := fun b u q n _ => by rw [upd_ne (Nat.ne_of_lt (Nat.lt_of_lt_of_le (Heap.lt_size q) hp))]; exact n
  there := fun b u q _ => ⟨u, k b u q⟩
  tups := fun b xs q => by rw [upd_ne (ne_of_none q hn)]; exact q
  frzs := fun b u xs q => by rw [upd_ne (ne_of_none q hn)]; exact q
  tbls := fun b ps q => ⟨#[], by rw [upd_ne (ne_of_none q hn), q]; simp⟩
theorem Un.write (mu : Mut (H x)) (he : e = x ∨ H e = some (.own x)) (k : ∀ b u, b ≠ e → h.get? b = some u → h'.get? b = some u) (heo : ∃ u, h'.get? e = some u) : Un fs ex H (upd H x o) h h' := by
  have hx : ∀ b, H b = none → b ≠ x := fun b n z => by subst z; rw [n] at mu; exact mu
  have hb : ∀ b, H b = none → b ≠ e := fun b n z => by
    subst z
    rcases he with r | r
    · exact hx b n r
    · rw [n] at r; cases r
  have hm : ∀ b u, H b = some u → ¬ Mut (some u) → b ≠ x := fun b u q nm z => by subst z; rw [q] at mu; exact nm mu
  refine ⟨fun b u q n _ _ => k b u (hb b n) q, fun b u q n _ _ => ⟨u.slots, k b u (hb b n) q⟩, fun b u q n _ => by rw [upd_ne (hx b n)]; exact n, fun b u q _ => ?_,
    fun b xs q => by rw [upd_ne (hm b _ q fun z => z)]; exact q, fun b u xs q => by rw [upd_ne (hm b _ q fun z => z)]; exact q, fun b ps q => ⟨#[], by rw [upd_ne (hm b _ q fun z => z), q]; simp⟩⟩
  by_cases hbe : b = e
  · subst hbe; exact heo
  · exact ⟨u, k b u hbe q⟩
end

/-! ### the heap without what is tracked -/
noncomputable def trk (h : Heap) (H : Hp) : List Addr := (List.range h.objs.size).filter fun a => (H a).isSome
noncomputable def hidT (h : Heap) (H : Hp) : Heap := PySem.W.hideAll h (trk h H)
theorem hidT_size (h : Heap) (H : Hp) : (hidT h H).objs.size = h.objs.size := PySem.W.hideAll_size _ _
theorem hidT_get {h : Heap} {H : Hp} {b : Addr} {o : Obj} (e : h.get? b = some o) (n : H b = none) : (hidT h H).get? b = some o :=
  PySem.W.hideAll_get _ e fun hm => by
    have q : (H b).isSome = true := (List.mem_filter.mp hm).2
    rw [n] at q; simp at q
theorem of_hidT {h : Heap} {H : Hp} {b : Addr} {o : Obj} (e : (hidT h H).get? b = some o) : h.get? b = some o ∧ H b = none := by
  have e' : h.get? b = some o := PySem.W.of_hideAll (trk h H) e
  refine ⟨e', ?_⟩
  cases q : H b with
  | none => rfl
  | some x =>
    have hm : b ∈ trk h H := List.mem_filter.mpr ⟨List.mem_range.mpr (Heap.lt_size e'), by simp [q]⟩
    have z : (hidT h H).get? b = none := PySem.W.hideAll_none (trk h H) hm
    rw [z] at e; cases e

/-! ### OpenK's ledger, filled with every new object but one -/
noncomputable def allNews (g h : Heap) (L : Addr) : List (Addr × Obj) := (List.range h.objs.size).filterMap fun a => if a = L ∨ (g.get? a).isSome = true then none else (h.get? a).map fun o => (a, o)
noncomputable def rest (g h : Heap) (L d : Addr) : List (Addr × Obj) := (allNews g h L).filter fun p => decide (p.1 ≠ d)
end L2

namespace L2
open PySem PySem.Spec PyProof.Rows

/-- the module's facts, over the base: the heap at the law's entry without what is tracked there -/
structure Mod (K : PySem.W.Frag) (mg : Str → Option Value) (base : Heap) : Prop where
  kin : K.In base
  glob : base.Ns mainGlobals mg
  blt : ∃ mb, base.Ns builtinsNs mb ∧ ∀ x : Str, x ≠ "__name__" → mb x = bootBuiltins x
  nolimit : base.NoLimit

/-- the context: a def's body (or a comprehension's block) running. base: fixed through the whole law; s₀, H₀: the entry; outer: the frames whose slots others may change (a def's callers); stack: all frames that run;
   ex: iterators that were made ahead of the entry and are walked here (a comprehension's); fn: the names whose cells were made at the entry (a def: all; a comprehension's block: its own); calm: not within an except suite; pn: pins that every state bears; xe: what is wanted of an exception that leaves the code -/
structure Cx where
  prog : Program
  w : World
  K : PySem.W.Frag
  mg : Str → Option Value
  base : Heap
  A : Around
  N : List Str
  s₀ : Shared
  H₀ : Hp
  env : Env
  outer : List Env
  stack : List Env
  ex : List Addr
  fn : Str → Bool
  calm : Bool
  pn : List (Addr × Obj)
  xe : Value → Shared → Prop
/-- the callers' frames -/
noncomputable def frs (l : List Env) : List Addr := l.filterMap (·.frame)
noncomputable abbrev Cx.fs (X : Cx) : List Addr := frs X.outer

noncomputable def Vis (sc : Scope) (x : Str) : Prop := sc.names.lookup x = some .local ∨ sc.names.lookup x = some .cell ∨ sc.names.lookup x = some .free
noncomputable def Loc (sc : Scope) (x : Str) : Prop := sc.names.lookup x = some .local ∨ sc.names.lookup x = some .cell
noncomputable def Look (env : Env) (h : Heap) (m : Str → Option Value) (x : Str) (u : Value) : Prop :=
  (env.kindOf x = some .local ∧ m x = some u) ∨ ((env.kindOf x = some .cell ∨ env.kindOf x = some .free) ∧ ∃ c, env.cells.lookup x = some c ∧ h.IsCell c (some u))

structure Cx.Ok (X : Cx) : Prop where
  mod : Mod X.K X.mg X.base
  kind : X.env.scope.kind = .function
  glob : X.env.globals = mainGlobals
  blt : X.env.builtins = builtinsNs
  above : X.s₀.heap.objs.size ≤ X.env.locals
  inj : ∀ x y c, X.env.cells.lookup x = some c → X.env.cells.lookup y = some c → x = y
  has : ∀ x, (X.env.kindOf x = some .cell ∨ X.env.kindOf x = some .free) → ∃ c, X.env.cells.lookup x = some c
  cab : ∀ x c, X.fn x = true → X.env.cells.lookup x = some c → X.s₀.heap.objs.size ≤ c
  hd : X.calm = true → X.A.handled = none
  frames : X.A.frames = some X.stack
  stk : X.stack = X.outer ∨ (X.stack = X.env :: X.outer ∧ X.env.frame = some X.env.locals)
  exf : ∀ b ∈ X.ex, b ≠ X.env.locals ∧ ∀ x c, X.env.cells.lookup x = some c → c ≠ b
  bs : ∀ b o, X.base.get? b = some o → X.s₀.heap.get? b = some o ∧ X.H₀ b = none
  bsz : X.base.objs.size ≤ X.s₀.heap.objs.size
  noex : ∀ b o, X.base.get? b = some o → b ∉ X.ex
  exfs : ∀ b ∈ X.ex, b ∉ X.fs
  funs : X.s₀.heap.FunFrames X.base X.outer
  frf : ∀ b ∈ X.fs, X.H₀ b = none

structure Inv (X : Cx) (pins : List (Addr × Obj)) (σ : List (Option V)) (H : Hp) (s : Shared) : Prop where
  ok : X.Ok
  os : s.os = X.s₀.os
  bare : AllBare s.gens
  base : Un X.fs X.ex X.H₀ H X.s₀.heap s.heap
  loc : ∃ m, s.heap.Ns X.env.locals m ∧ ∀ (i : Nat) (x : Str) (v : V), X.N[i]? = some x → σ[i]? = some (some v) → Vis X.env.scope x → ∃ u, RelV v u ∧ Look X.env s.heap m x u
  cell : ∀ x c, X.env.cells.lookup x = some c → ∃ v, s.heap.IsCell c v
  free : H X.env.locals = none
  freeC : ∀ x c, X.env.cells.lookup x = some c → H c = none
  pin : ∀ p ∈ X.pn ++ pins, s.heap.get? p.1 = some p.2 ∧ H p.1 = none ∧ p.1 ≠ X.env.locals ∧ p.1 ∉ X.fs ∧ ∀ v, p.2.data ≠ .cell v
  hok : HOk X.prog X.w H s.heap
  len : σ.length = X.N.length

section
variable {X : Cx} {pins : List (Addr × Obj)} {σ : List (Option V)} {H H' : Hp} {s : Shared} {h' : Heap}

theorem Cx.Ok.nofr (ok : X.Ok) {b : Addr} {o : Obj} (e : X.base.get? b = some o) : b ∉ X.fs := fun hb => by
  have := (ok.funs.mem hb).1
  rw [e] at this; cases this
theorem Inv.bs (I : Inv X pins σ H s) : ∀ b o, X.base.get? b = some o → s.heap.get? b = some o ∧ H b = none := fun b o e =>
  ⟨I.base.keep b o (I.ok.bs b o e).1 (I.ok.bs b o e).2 (I.ok.nofr e) (I.ok.noex b o e), I.base.free b o (I.ok.bs b o e).1 (I.ok.bs b o e).2 (I.ok.noex b o e)⟩
theorem Inv.bk (I : Inv X pins σ H s) : ∀ b o, X.base.get? b = some o → s.heap.get? b = some o := fun b o e => (I.bs b o e).1
theorem Inv.mod (I : Inv X pins σ H s) : Mod X.K X.mg X.base := I.ok.mod
theorem Inv.kIn (I : Inv X pins σ H s) : X.K.In s.heap := I.ok.mod.kin.keeps I.bk
theorem Inv.nolimit (I : Inv X pins σ H s) : s.heap.NoLimit := I.ok.mod.nolimit.keeps I.bk
/-- the frame over the base: for OpenK's rules (K.In X.base is I.mod.kin) -/
theorem Inv.fr (I : Inv X pins σ H s) : ∃ m, Fr X.base X.env.locals s.heap m :=
  let ⟨m, hn, _⟩ := I.loc
  ⟨m, hn, I.bk, Nat.le_trans I.ok.bsz I.ok.above⟩
theorem Inv.lt (I : Inv X pins σ H s) : X.env.locals < s.heap.objs.size := let ⟨_, hn, _⟩ := I.loc; hn.lt
theorem Inv.sz (I : Inv X pins σ H s) : X.s₀.heap.objs.size ≤ s.heap.objs.size := Nat.le_trans I.ok.above (Nat.le_of_lt I.lt)
theorem Inv.nofs (I : Inv X pins σ H s) {a : Addr} (h : s.heap.objs.size ≤ a) : a ∉ X.fs := fun hb => by
  obtain ⟨_, o, ho, _⟩ := I.ok.funs.mem hb
  exact absurd (Nat.lt_of_lt_of_le (Heap.lt_size ho) (Nat.le_trans I.sz h)) (Nat.lt_irrefl _)
theorem Inv.cne (I : Inv X pins σ H s) : ∀ x c, X.env.cells.lookup x = some c → c ≠ X.env.locals := fun x c e z => by
  obtain ⟨v, o, ho, hd⟩ := I.cell x c e
  obtain ⟨m, ⟨o', es, ep, ho', hd', _⟩, _⟩ := I.loc
  rw [z, ho'] at ho; cases ho; rw [hd'] at hd; cases hd
theorem Inv.funs (I : Inv X pins σ H s) : s.heap.FunFrames X.base X.outer := by
  have all : ∀ (l : List Env), (∀ b ∈ frs l, b ∈ X.fs) → X.s₀.heap.FunFrames X.base l → s.heap.FunFrames X.base l := by
    intro l
    induction l with
    | nil => intro _ _; trivial
    | cons env r ih =>
      intro hs hl
      obtain ⟨hk, ⟨L, o, hf, hn, ho, hd⟩, hr⟩ := hl
      have hL : L ∈ X.fs := hs L (by unfold frs; rw [List.filterMap_cons, hf]; exact List.mem_cons_self)
      obtain ⟨sl, e⟩ := I.base.slot L o ho (I.ok.frf L hL) hL fun z => I.ok.exfs L z hL
      exact ⟨hk, ⟨L, _, hf, hn, e, hd⟩, ih (fun b hb => hs b (by unfold frs; rw [List.filterMap_cons, hf]; exact List.mem_cons_of_mem _ hb)) hr⟩
  exact all X.outer (fun _ hb => hb) I.ok.funs

/-- the frames that run, for a call -/
theorem Inv.stack (I : Inv X pins σ H s) : s.heap.FunFrames X.base X.stack := by
  rcases I.ok.stk with e | ⟨e, hf⟩
  · rw [e]; exact I.funs
  · rw [e]
    obtain ⟨m, hn, _⟩ := I.loc
    refine .cons (by rw [I.ok.kind]; decide) hf hn ?_ I.funs
    exact Heap.get?_none_of_le (Nat.le_trans I.ok.bsz I.ok.above)
theorem Inv.stkSub (I : Inv X pins σ H s) : ∀ b ∈ frs X.stack, b ∈ X.env.locals :: X.fs := fun b hb => by
  rcases I.ok.stk with e | ⟨e, hf⟩
  · rw [e] at hb; exact List.mem_cons_of_mem _ hb
  · rw [e] at hb
    unfold frs at hb
    rw [List.filterMap_cons, hf] at hb
    exact hb
theorem Inv.stkFree (I : Inv X pins σ H s) : ∀ b ∈ frs X.stack, H b = none := fun b hb => by
  rcases List.mem_cons.mp (I.stkSub b hb) with e | hb
  · rw [e]; exact I.free
  · obtain ⟨_, o, ho, _⟩ := I.ok.funs.mem hb
    exact I.base.free b o ho (I.ok.frf b hb) fun z => I.ok.exfs b z hb

/-- THE STEP: the untracked objects but the frame and the records at ch are kept (the callers' frames up to slots), the frame's map is kept, the new abstract heap is held -/
theorem Inv.step {g' : Array GenState} {t' : Nat} {d' : Drawn} {ch : List Addr} (I : Inv X pins σ H s)
    (hch : ∀ b ∈ ch, (b ∈ X.ex ∨ X.s₀.heap.objs.size ≤ b) ∧ b ≠ X.env.locals ∧ (∀ x c, X.env.cells.lookup x = some c → c ≠ b) ∧ ∀ p ∈ X.pn ++ pins, p.1 ≠ b)
    (keep : ∀ b o, b ≠ X.env.locals → b ∉ X.fs → b ∉ ch → s.heap.get? b = some o → H b = none → h'.get? b = some o)
    (slot : ∀ b o, b ≠ X.env.locals → b ∈ X.fs → b ∉ ch → s.heap.get? b = some o → H b = none → ∃ sl, h'.get? b = some { o with slots := sl }) (free : ∀ b o, b ∉ ch → s.heap.get? b = some o → H b = none → H' b = none)
    (there : ∀ b o, b ∉ ch → s.heap.get? b = some o → ∃ o', h'.get? b = some o')
    (tups : ∀ b xs, H b = some (.tup xs) → H' b = some (.tup xs)) (frzs : ∀ b o u, H b = some (.frz o u) → H' b = some (.frz o u)) (tbls : ∀ b ps, H b = some (.tbl ps) → ∃ more, H' b = some (.tbl (ps ++ more)))
    (ns : ∀ m, s.heap.Ns X.env.locals m → h'.Ns X.env.locals m) (hok : HOk X.prog X.w H' h') (hg : AllBare g') :
    Inv X pins σ H' { s with heap := h', gens := g', drawn := d', toks := t' } := by
  have neL : ∀ b o, X.s₀.heap.get? b = some o → b ≠ X.env.locals := fun b o e => Nat.ne_of_lt (Nat.lt_of_lt_of_le (Heap.lt_size e) I.ok.above)
  have neC : ∀ b o, X.s₀.heap.get? b = some o → b ∉ X.ex → b ∉ ch := fun b o e hx hb => by
    rcases (hch b hb).1 with z | z
    · exact hx z
    · exact absurd (Nat.lt_of_lt_of_le (Heap.lt_size e) z) (Nat.lt_irrefl _)
  have cellK : ∀ x c, X.env.cells.lookup x = some c → ∀ v, s.heap.IsCell c v → h'.IsCell c v := fun x c e v ⟨o, ho, hd⟩ => by
    have nch : c ∉ ch := fun z => (hch c z).2.2.1 x c e rfl
    by_cases hc : c ∈ X.fs
    · obtain ⟨sl, q⟩ := slot c o (I.cne x c e) hc nch ho (I.freeC x c e)
      exact ⟨_, q, hd⟩
    · exact ⟨o, keep c o (I.cne x c e) hc nch ho (I.freeC x c e), hd⟩
  refine ⟨I.ok, I.os, hg, ⟨fun b o e n hb hx => ?_, fun b o e n hb hx => ?_, fun b o e n hx => ?_, fun b o e hx => ?_, fun b xs e => tups b xs (I.base.tups b xs e), fun b o xs e => frzs b o xs (I.base.frzs b o xs e), fun b ps e => ?_⟩, ?_, fun x c e => ?_, ?_, fun x c e => ?_, fun p hp => ?_, hok, I.len⟩
  · exact keep b o (neL b o e) hb (neC b o e hx) (I.base.keep b o e n hb hx) (I.base.free b o e n hx)
  · obtain ⟨sl, e1⟩ := I.base.slot b o e n hb hx
    obtain ⟨sl', e2⟩ := slot b _ (neL b o e) hb (neC b o e hx) e1 (I.base.free b o e n hx)
    exact ⟨sl', e2⟩
  · obtain ⟨o', e1⟩ := I.base.there b o e hx
    exact free b o' (neC b o e hx) e1 (I.base.free b o e n hx)
  · obtain ⟨o', e1⟩ := I.base.there b o e hx
    exact there b o' (neC b o e hx) e1
  · obtain ⟨m1, e1⟩ := I.base.tbls b ps e
    obtain ⟨m2, e2⟩ := tbls b _ e1
    exact ⟨m1 ++ m2, by rw [e2, Array.append_assoc]⟩
  · obtain ⟨m, hn, hl⟩ := I.loc
    refine ⟨m, ns m hn, fun i x v e1 e2 e3 => ?_⟩
    obtain ⟨u, r, l⟩ := hl i x v e1 e2 e3
    refine ⟨u, r, ?_⟩
    rcases l with l | ⟨k, c, e, z⟩
    · exact .inl l
    · exact .inr ⟨k, c, e, cellK x c e _ z⟩
  · obtain ⟨v, z⟩ := I.cell x c e
    exact ⟨v, cellK x c e v z⟩
  · obtain ⟨m, ⟨o, _, _, ho, _⟩, _⟩ := I.loc
    exact free _ o (fun z => (hch _ z).2.1 rfl) ho I.free
  · obtain ⟨v, o, ho, hd⟩ := I.cell x c e
    exact free c o (fun z => (hch c z).2.2.1 x c e rfl) ho (I.freeC x c e)
  · obtain ⟨e, n, ne, nf, d⟩ := I.pin p hp
    have nch : p.1 ∉ ch := fun z => (hch p.1 z).2.2.2 p hp rfl
    exact ⟨keep p.1 p.2 ne nf nch e n, free p.1 p.2 nch e n, ne, nf, d⟩
/-- .. where the frame's own object is kept too -/
theorem Inv.un {t' : Nat} (I : Inv X pins σ H s) (u : Un X.fs [] H H' s.heap h') (hok : HOk X.prog X.w H' h') : Inv X pins σ H' { s with heap := h', toks := t' } := by
  obtain ⟨m, ⟨o, es, ep, ho, r⟩, _⟩ := id I.loc
  obtain ⟨sl, hL⟩ := u.any ho I.free (by simp)
  exact I.step (g' := s.gens) (d' := s.drawn) (ch := []) (fun _ z => nomatch z) (fun b o _ hb _ e n => u.keep b o e n hb (by simp)) (fun b o _ hb _ e n => u.slot b o e n hb (by simp)) (fun b o _ e n => u.free b o e n (by simp)) (fun b o _ e => u.there b o e (by simp)) u.tups u.frzs u.tbls (fun m' hm => by
    obtain ⟨o', es', ep', ho', r'⟩ := hm
    rw [ho] at ho'; cases ho'
    exact ⟨_, es', ep', hL, r'⟩) hok I.bare
/-- behind a call (or a comprehension's block): the slots of this frame may have changed too, the records at ch may have turned -/
theorem Inv.call {g' : Array GenState} {t' : Nat} {d' : Drawn} {ch : List Addr} (I : Inv X pins σ H s) (u : Un (frs X.stack) ch H H' s.heap h') (hok : HOk X.prog X.w H' h') (hg : AllBare g')
    (hch : ∀ b ∈ ch, (b ∈ X.ex ∨ X.s₀.heap.objs.size ≤ b) ∧ b ≠ X.env.locals ∧ (∀ x c, X.env.cells.lookup x = some c → c ≠ b) ∧ ∀ p ∈ X.pn ++ pins, p.1 ≠ b) :
    Inv X pins σ H' { s with heap := h', gens := g', drawn := d', toks := t' } := by
  obtain ⟨m, ⟨o, es, ep, ho, r⟩, _⟩ := id I.loc
  obtain ⟨sl, hL⟩ := u.any ho I.free fun z => (hch _ z).2.1 rfl
  exact I.step (ch := ch) hch (fun b o hL hb hc e n => u.keep b o e n (fun z => (List.mem_cons.mp (I.stkSub b z)).elim hL hb) hc) (fun b o _ _ hc e n => u.any e n hc) (fun b o hc e n => u.free b o e n hc) (fun b o hc e => u.there b o e hc) u.tups u.frzs u.tbls (fun m' hm => by
    obtain ⟨o', es', ep', ho', r'⟩ := hm
    rw [ho] at ho'; cases ho'
    exact ⟨_, es', ep', hL, r'⟩) hok hg
/-- an untracked record of ours (an iterator) has turned -/
theorem Inv.turned {t' : Nat} {it : Addr} (I : Inv X pins σ H s) (k : ∀ b o, b ≠ it → s.heap.get? b = some o → h'.get? b = some o) (hn : H it = none) (hL : it ≠ X.env.locals)
    (h1 : it ∈ X.ex ∨ X.s₀.heap.objs.size ≤ it) (h2 : ∀ x c, X.env.cells.lookup x = some c → c ≠ it) (h3 : ∀ p ∈ X.pn ++ pins, p.1 ≠ it) : Inv X pins σ H { s with heap := h', toks := t' } := by
  have nit : ∀ b u, H b = some u → b ≠ it := fun b u e z => by rw [z, hn] at e; cases e
  refine I.step (g' := s.gens) (d' := s.drawn) (ch := [it]) (fun b hb => ?_) (fun b o _ _ hc e _ => k b o (fun z => hc (by simp [z])) e) (fun b o _ _ hc e _ => ⟨o.slots, k b o (fun z => hc (by simp [z])) e⟩) (fun _ _ _ _ n => n)
    (fun b o hc e => ⟨o, k b o (fun z => hc (by simp [z])) e⟩) (fun _ _ e => e) (fun _ _ _ e => e) (fun b ps e => ⟨#[], by rw [e]; simp⟩) (fun m hm => ?_) (fun b u e => ?_) I.bare
  · have e : b = it := by simpa using hb
    subst e
    exact ⟨h1, hL, h2, h3⟩
  · obtain ⟨o, es, ep, ho, r⟩ := hm
    exact ⟨o, es, ep, k _ o (Ne.symm hL) ho, r⟩
  · refine (I.hok b u e).stay (fun c v hc q => k c v ?_ q) (fun _ q => q) fun _ _ q => q
    rcases hc with z | z
    · rw [z]; exact nit b u e
    · exact nit c _ z
theorem Inv.tok (I : Inv X pins σ H s) (t : Nat) : Inv X pins σ H { s with toks := t } := I.un (h' := s.heap) (t' := t) Un.refl I.hok
/-- all objects kept -/
theorem Inv.kept {t' : Nat} (I : Inv X pins σ H s) (k : ∀ b u, s.heap.get? b = some u → h'.get? b = some u) : Inv X pins σ H { s with heap := h', toks := t' } := I.un (Un.kept k) (I.hok.kept k)
/-- a new object laid and tracked -/
theorem Inv.laid {a : Addr} {o : HO} {t' : Nat} (I : Inv X pins σ H s) (k : ∀ b u, s.heap.get? b = some u → h'.get? b = some u) (hp : s.heap.objs.size ≤ a) (new : ObjOk X.prog X.w (upd H a o) h' a o) :
    Inv X pins σ (upd H a o) { s with heap := h', toks := t' } := I.un (Un.laid k hp (I.hok.fresh hp)) (I.hok.laid k hp new)
/-- an object written -/
theorem Inv.write {x e : Addr} {o : HO} {t' : Nat} (I : Inv X pins σ H s) (mu : Mut (H x)) (he : e = x ∨ H e = some (.own x)) (k : ∀ b u, b ≠ e → s.heap.get? b = some u → h'.get? b = some u) (heo : ∃ u, h'.get? e = some u)
    (new : ObjOk X.prog X.w (upd H x o) h' x o) : Inv X pins σ (upd H x o) { s with heap := h', toks := t' } := I.un (Un.write mu he k heo) (I.hok.write mu he k heo new)
theorem Inv.pins_of {pins' : List (Addr × Obj)} (I : Inv X pins σ H s) (h : ∀ p ∈ pins', s.heap.get? p.1 = some p.2 ∧ H p.1 = none ∧ p.1 ≠ X.env.locals ∧ p.1 ∉ X.fs ∧ ∀ v, p.2.data ≠ .cell v) : Inv X pins' σ H s :=
  ⟨I.ok, I.os, I.bare, I.base, I.loc, I.cell, I.free, I.freeC, fun p hp => (List.mem_append.mp hp).elim (fun z => I.pin p (List.mem_append_left _ z)) (h p), I.hok, I.len⟩

theorem nodup_ix {N : List Str} (hN : N.Nodup) {i j : Nat} {x : Str} (a : N[i]? = some x) (b : N[j]? = some x) : i = j := by
  obtain ⟨h1, e1⟩ := List.getElem?_eq_some_iff.mp a
  obtain ⟨h2, e2⟩ := List.getElem?_eq_some_iff.mp b
  exact (List.getElem_inj hN).mp (e1.trans e2.symm)

/-- a name is stored; what changed -/
theorem store_ok2 {M : Model} {A : Around} {E : Value → Shared → Prop} {i : Nat} {x : Str} {v : V} {u : Value} {Q : Unit → Shared → Prop} (I : Inv X pins σ H s) (hN : X.N.Nodup) (hi : X.N[i]? = some x) (hx : Loc X.env.scope x) (r : RelV v u)
    (h : ∀ s', Inv X pins (σ.set i (some v)) H s' → (∃ a, Heap.SameBut a s.heap s'.heap ∧ (a = X.env.locals ∨ X.env.cells.lookup x = some a)) → Q () s') (hf : X.fn x = true ∨ X.env.scope.names.lookup x = some .local := by first | exact .inl rfl | exact .inr rfl | assumption) : wpAny M A (storeName X.env x u) Q E s := by
  obtain ⟨m, hn, hl⟩ := id I.loc
  have hcls : (X.env.scope.kind == .class || (X.env.scope.kind == .module && X.env.locals != X.env.globals)) = false := by rw [I.ok.kind]; rfl
  have hiσ : i < σ.length := by rw [I.len]; exact (List.getElem?_eq_some_iff.mp hi).1
  have cne := I.cne
  have tracked : ∀ {a : Addr} {h' : Heap}, (∃ o, s.heap.get? a = some o ∧ H a = none) → Heap.SameBut a s.heap h' → HOk X.prog X.w H h' := fun {a h'} ha hs b ob e => by
    obtain ⟨_, _, hfree⟩ := ha
    refine (I.hok b ob e).stay (fun c w' hc q => (hs.2 c ?_).trans q) (fun _ q => q) fun _ _ q => q
    rintro rfl
    rcases hc with rfl | hc
    · rw [hfree] at e; cases e
    · rw [hfree] at hc; cases hc
  rcases hx with hk | hk
  · refine wpAny_storeName_local hk hn (fun h' hn' hs => ?_) hcls
    obtain ⟨oL, _, _, hoL, _⟩ := id hn
    refine h _ ⟨I.ok, I.os, I.bare, ⟨fun b o e n hb hx => ?_, fun b o e n hb hx => ?_, I.base.free, fun b o e hx => ?_, I.base.tups, I.base.frzs, I.base.tbls⟩, ⟨_, hn', fun j y v' e1 e2 e3 => ?_⟩, fun y c e => ?_, I.free, I.freeC, fun p hp => ?_, tracked ⟨oL, hoL, I.free⟩ hs, by simpa using I.len⟩ ⟨_, hs, .inl rfl⟩
    · exact (hs.2 b (Nat.ne_of_lt (Nat.lt_of_lt_of_le (Heap.lt_size e) I.ok.above))).trans (I.base.keep b o e n hb hx)
    · obtain ⟨sl, e1⟩ := I.base.slot b o e n hb hx
      exact ⟨sl, (hs.2 b (Nat.ne_of_lt (Nat.lt_of_lt_of_le (Heap.lt_size e) I.ok.above))).trans e1⟩
    · obtain ⟨o', e1⟩ := I.base.there b o e hx
      exact ⟨o', (hs.2 b (Nat.ne_of_lt (Nat.lt_of_lt_of_le (Heap.lt_size e) I.ok.above))).trans e1⟩
    · by_cases hj : j = i
      · subst hj
        rw [hi] at e1; cases e1
        rw [List.getElem?_set_self hiσ] at e2
        cases e2
        exact ⟨u, r, .inl ⟨hk, by simp⟩⟩
      · rw [List.getElem?_set_ne (Ne.symm hj)] at e2
        obtain ⟨u', r', q⟩ := hl j y v' e1 e2 e3
        refine ⟨u', r', ?_⟩
        rcases q with ⟨k, e⟩ | ⟨k, c, e, z⟩
        · refine .inl ⟨k, ?_⟩
          have : y ≠ x := fun e => hj (nodup_ix hN e1 (e ▸ hi))
          simp [this, e]
        · exact .inr ⟨k, c, e, z.sameBut hs (cne y c e)⟩
    · obtain ⟨w', z⟩ := I.cell y c e
      exact ⟨w', z.sameBut hs (cne y c e)⟩
    · obtain ⟨e, n, ne, nf, d⟩ := I.pin p hp
      exact ⟨(hs.2 p.1 ne).trans e, n, ne, nf, d⟩
  · have hfn : X.fn x = true := by
      rcases hf with z | z
      · exact z
      · rw [z] at hk; cases hk
    obtain ⟨c, hc⟩ := I.ok.has x (.inl hk)
    obtain ⟨w', z⟩ := I.cell x c hc
    refine wpAny_storeName_cell I.ok.kind hk hc z (fun h' hc' hs => ?_)
    obtain ⟨oc, hoc, hocd⟩ := id z
    refine h { s with heap := h' } ⟨I.ok, I.os, I.bare, ⟨fun b o e n hb hx => ?_, fun b o e n hb hx => ?_, I.base.free, fun b o e hx => ?_, I.base.tups, I.base.frzs, I.base.tbls⟩, ⟨m, hn.sameBut hs (Ne.symm (cne x c hc)), fun j y v' e1 e2 e3 => ?_⟩, fun y c' e => ?_, I.free, I.freeC, fun p hp => ?_, tracked ⟨oc, hoc, I.freeC x c hc⟩ hs, by simpa using I.len⟩ ⟨c, hs, .inr hc⟩
    · exact (hs.2 b (Nat.ne_of_lt (Nat.lt_of_lt_of_le (Heap.lt_size e) (I.ok.cab x c hfn hc)))).trans (I.base.keep b o e n hb hx)
    · obtain ⟨sl, e1⟩ := I.base.slot b o e n hb hx
      exact ⟨sl, (hs.2 b (Nat.ne_of_lt (Nat.lt_of_lt_of_le (Heap.lt_size e) (I.ok.cab x c hfn hc)))).trans e1⟩
    · obtain ⟨o', e1⟩ := I.base.there b o e hx
      exact ⟨o', (hs.2 b (Nat.ne_of_lt (Nat.lt_of_lt_of_le (Heap.lt_size e) (I.ok.cab x c hfn hc)))).trans e1⟩
    · by_cases hj : j = i
      · subst hj
        rw [hi] at e1; cases e1
        rw [List.getElem?_set_self hiσ] at e2
        cases e2
        exact ⟨u, r, .inr ⟨.inl hk, c, hc, hc'⟩⟩
      · rw [List.getElem?_set_ne (Ne.symm hj)] at e2
        obtain ⟨u', r', q⟩ := hl j y v' e1 e2 e3
        refine ⟨u', r', ?_⟩
        rcases q with q | ⟨k, c', e, z'⟩
        · exact .inl q
        · refine .inr ⟨k, c', e, z'.sameBut hs ?_⟩
          rintro rfl
          exact hj (nodup_ix hN e1 (I.ok.inj _ _ _ e hc ▸ hi))
    · by_cases hcc : c' = c
      · subst hcc; exact ⟨_, hc'⟩
      · obtain ⟨w2, z2⟩ := I.cell y c' e
        exact ⟨w2, z2.sameBut hs hcc⟩
    · obtain ⟨e, n, ne, nf, d⟩ := I.pin p hp
      refine ⟨(hs.2 p.1 ?_).trans e, n, ne, nf, d⟩
      intro q
      rw [q, hoc] at e
      have q' : oc = p.2 := Option.some.inj e
      exact d w' (by rw [← q']; exact hocd)
theorem store_ok {M : Model} {A : Around} {E : Value → Shared → Prop} {i : Nat} {x : Str} {v : V} {u : Value} {Q : Unit → Shared → Prop} (I : Inv X pins σ H s) (hN : X.N.Nodup) (hi : X.N[i]? = some x) (hx : Loc X.env.scope x) (r : RelV v u)
    (h : ∀ s', Inv X pins (σ.set i (some v)) H s' → Q () s') (hf : X.fn x = true ∨ X.env.scope.names.lookup x = some .local := by first | exact .inl rfl | exact .inr rfl | assumption) : wpAny M A (storeName X.env x u) Q E s :=
  store_ok2 I hN hi hx r (fun s' I' _ => h s' I') hf
/-- behind a call or a block, the state as it is -/
theorem Inv.call' {s' : Shared} {ch : List Addr} (I : Inv X pins σ H s) (ho : s'.os = s.os) (u : Un (frs X.stack) ch H H' s.heap s'.heap) (hok : HOk X.prog X.w H' s'.heap) (hg : AllBare s'.gens)
    (hch : ∀ b ∈ ch, (b ∈ X.ex ∨ X.s₀.heap.objs.size ≤ b) ∧ b ≠ X.env.locals ∧ (∀ x c, X.env.cells.lookup x = some c → c ≠ b) ∧ ∀ p ∈ X.pn ++ pins, p.1 ≠ b) : Inv X pins σ H' s' := by
  obtain ⟨h', g', d', t', o'⟩ := s'
  have e : o' = s.os := ho
  subst e
  exact I.call (g' := g') (t' := t') (d' := d') u hok hg hch
end

/-! ### the judgements -/
/-- an exception: its class, its own dict's address (where it has one), the abstract heap behind it -/
noncomputable abbrev XK := Value → Option Addr → Hp → Prop
noncomputable abbrev St := List (Option V)
noncomputable abbrev VK := V → Hp → Prop
/-- an expression's reading; a test's; an argument list's -/
noncomputable abbrev TE := St → Hp → VK → Prop
noncomputable abbrev TT := St → Hp → (Bool → Hp → Prop) → Prop
noncomputable abbrev TA := St → Hp → (List V → Hp → Prop) → Prop
/-- what is wanted behind a statement -/
structure Ends where
  nx : St → Hp → Prop
  rt : VK
  bk : St → Hp → Prop := fun _ _ => False
  ct : St → Hp → Prop := fun _ _ => False
noncomputable abbrev TS := Ends → St → Hp → Prop

noncomputable def EP (X : Cx) (pins : List (Addr × Obj)) (σ : St) (Q : VK) (u : Value) (s' : Shared) : Prop := ∃ v H', Inv X pins σ H' s' ∧ RelV v u ∧ Q v H'
noncomputable def TP (X : Cx) (pins : List (Addr × Obj)) (σ : St) (Q : Bool → Hp → Prop) (b : Bool) (s' : Shared) : Prop := ∃ H', Inv X pins σ H' s' ∧ Q b H'
noncomputable def AP (X : Cx) (pins : List (Addr × Obj)) (σ : St) (Q : List V → Hp → Prop) (us : List Value) (s' : Shared) : Prop := ∃ vs H', Inv X pins σ H' s' ∧ Vals vs us ∧ Q vs H'
noncomputable def SP (X : Cx) (pins : List (Addr × Obj)) (D : Ends) (f : Flow) (s' : Shared) : Prop :=
  match f with
  | .next => ∃ σ' H', Inv X pins σ' H' s' ∧ D.nx σ' H'
  | .brk => ∃ σ' H', Inv X pins σ' H' s' ∧ D.bk σ' H'
  | .cont => ∃ σ' H', Inv X pins σ' H' s' ∧ D.ct σ' H'
  | .ret u => ∃ v σ' H', Inv X pins σ' H' s' ∧ RelV v u ∧ D.rt v H'

noncomputable def PE (X : Cx) (e : Expr) (t : TE) : Prop :=
  ∀ (pins : List (Addr × Obj)) (s : Shared) (σ : St) (H : Hp) (Q : VK), Inv X pins σ H s → t σ H Q → wpAny (model X.prog X.w) X.A (eval e X.env) (EP X pins σ Q) X.xe s
noncomputable def PT (X : Cx) (e : Expr) (t : TT) : Prop :=
  ∀ (pins : List (Addr × Obj)) (s : Shared) (σ : St) (H : Hp) (Q : Bool → Hp → Prop), Inv X pins σ H s → t σ H Q → wpAny (model X.prog X.w) X.A (isTrue e X.env (eval e X.env)) (TP X pins σ Q) X.xe s
/-- a test whatever its 'whole' is (and, or) -/
noncomputable def PW (X : Cx) (e : Expr) (t : TT) : Prop :=
  ∀ (whole : Sem Value) (pins : List (Addr × Obj)) (s : Shared) (σ : St) (H : Hp) (Q : Bool → Hp → Prop), Inv X pins σ H s → t σ H Q → wpAny (model X.prog X.w) X.A (isTrue e X.env whole) (TP X pins σ Q) X.xe s
theorem PW.pt {X : Cx} {e : Expr} {t : TT} (h : PW X e t) : PT X e t := h _
/-- an argument list (no star), from the left -/
noncomputable def PA (X : Cx) (es : List Expr) (t : TA) : Prop :=
  ∀ (pos : Pos) (pins : List (Addr × Obj)) (s : Shared) (σ : St) (H : Hp) (Q : List V → Hp → Prop), Inv X pins σ H s → t σ H Q → wpAny (model X.prog X.w) X.A (spliced (backTo pos (starEach es X.env))) (AP X pins σ Q) X.xe s
noncomputable def PS (X : Cx) (st : Stmt) (t : TS) : Prop :=
  ∀ (pins : List (Addr × Obj)) (s : Shared) (σ : St) (H : Hp) (D : Ends), Inv X pins σ H s → t D σ H → wpAny (model X.prog X.w) X.A (exec st X.env) (SP X pins D) X.xe s
noncomputable def PSs (X : Cx) (st : List Stmt) (t : TS) : Prop :=
  ∀ (pins : List (Addr × Obj)) (s : Shared) (σ : St) (H : Hp) (D : Ends), Inv X pins σ H s → t D σ H → wpAny (model X.prog X.w) X.A (execs st X.env) (SP X pins D) X.xe s
/-- weaken the end -/
theorem thn {α : Type} {t : Sem α} {Q Q' : α → Shared → Prop} {M : Model} {A : Around} {E : Value → Shared → Prop} {s : Shared} (h : wpAny M A t Q E s) (hQ : ∀ a s, Q a s → Q' a s) : wpAny M A t Q' E s := wpAny_mono h hQ fun _ _ x => x
end L2

namespace L2
open PySem PySem.Spec PyProof.Rows
section
variable {X : Cx}


/-! ### names and constants -/
noncomputable def tVar (i : Nat) : TE := fun σ H Q => ∃ v, σ[i]? = some (some v) ∧ Q v H
noncomputable def tC (v : V) : TE := fun _ H Q => Q v H
theorem pe_var {i : Nat} {x : Str} {pos : Pos} (hN : X.N[i]? = some x) (hv : Vis X.env.scope x) (hd : (x == ("__debug__" : Str)) = false := by decide) (hcd : (x == ("__classdict__" : Str)) = false := by decide) : PE X (.Name x pos) (tVar i) := by
  intro pins s σ H Q I h
  obtain ⟨v, e, h⟩ := h
  obtain ⟨m, hn, hl⟩ := I.loc
  obtain ⟨u, r, l⟩ := hl i x v hN e hv
  have fin : EP X pins σ Q u s := ⟨v, H, I, r, h⟩
  rcases l with ⟨hk, hm⟩ | ⟨hk, c, hc, hcell⟩
  · exact wpAny_Name (wpAny_loadName_local I.ok.kind hk hn hm fin) hd
  · rcases hk with hk | hk
    · exact wpAny_Name (wpAny_loadName_cell I.ok.kind hk hc hcell fin) hd
    · exact wpAny_Name (wpAny_loadName_free I.ok.kind hk hc hcell fin hcd) hd
theorem pe_int {i j pos} : PE X (.Constant (.int i) j pos) (tC (.int i)) := fun _ _ _ H _ I h => wpAny_Constant_int ⟨.int i, H, I.tok _, ⟨_, rfl⟩, h⟩
theorem pe_bl {b j pos} : PE X (.Constant (.bool b) j pos) (tC (.bl b)) := fun _ _ _ H _ I h => Constant_bool ⟨.bl b, H, I, rfl, h⟩
theorem pe_non {j pos} : PE X (.Constant .none j pos) (tC .non) := fun _ _ _ H _ I h => Constant_none ⟨.non, H, I, rfl, h⟩
theorem pe_str {x j pos} : PE X (.Constant (.str x) j pos) (tC (.str x)) := fun _ _ _ H _ I h => Calls.Constant_str ⟨.str x, H, I.tok _, ⟨_, rfl⟩, h⟩

/-- a global name of the def -/
noncomputable def Gl (X : Cx) (x : Str) : Prop := X.env.kindOf x = some .globalImplicit
theorem ld_glob {E : Value → Shared → Prop} {pins : List (Addr × Obj)} {s : Shared} {σ : St} {H : Hp} {x : Str} {u : Value} {pos : Pos} {Q : Value → Shared → Prop} (I : Inv X pins σ H s) (hg : Gl X x) (hm : X.mg x = some u) (h : Q u s)
    (hd : (x == ("__debug__" : Str)) = false := by decide) : wpAny (model X.prog X.w) X.A (eval (.Name x pos) X.env) Q E s :=
  Calls.Name_function_global I.ok.kind hg (Calls.loadGlobal_global (by rw [I.ok.glob]; exact I.mod.glob.keeps I.bk) hm h) hd
theorem ld_blt {E : Value → Shared → Prop} {pins : List (Addr × Obj)} {s : Shared} {σ : St} {H : Hp} {x : Str} {u : Value} {pos : Pos} {Q : Value → Shared → Prop} (I : Inv X pins σ H s) (hg : Gl X x) (hm : X.mg x = none) (hv : bootBuiltins x = some u) (h : Q u s)
    (hn : x ≠ "__name__" := by decide) (hd : (x == ("__debug__" : Str)) = false := by decide) : wpAny (model X.prog X.w) X.A (eval (.Name x pos) X.env) Q E s := by
  obtain ⟨mb, h1, h2⟩ := I.mod.blt
  exact Calls.Name_function_global I.ok.kind hg (Calls.loadGlobal_builtin (by rw [I.ok.glob]; exact I.mod.glob.keeps I.bk) hm (by rw [I.ok.blt]; exact h1.keeps I.bk) ((h2 x hn).trans hv) h) hd
/-- a module's constant, a class, a function, as a value -/
theorem pe_glob {x : Str} {v : V} {u : Value} {pos : Pos} (hg : Gl X x) (hm : X.mg x = some u) (r : RelV v u) (hd : (x == ("__debug__" : Str)) = false := by decide) : PE X (.Name x pos) (tC v) :=
  fun _ _ _ H _ I h => ld_glob I hg hm ⟨v, H, I, r, h⟩ hd
theorem pe_bltn {x : Str} {v : V} {u : Value} {pos : Pos} (hg : Gl X x) (hm : X.mg x = none) (hv : bootBuiltins x = some u) (r : RelV v u) (hn : x ≠ "__name__" := by decide) (hd : (x == ("__debug__" : Str)) = false := by decide) : PE X (.Name x pos) (tC v) :=
  fun _ _ _ H _ I h => ld_blt I hg hm hv ⟨v, H, I, r, h⟩ hn hd

/-! ### arithmetic -/
variable {a b : Expr} {ta tb : TE} {pos : Pos}

/-! ### comparisons -/
/-- a comparison as a value, as a test -/
noncomputable def tB (t : TE) : TT := fun σ H Q => t σ H fun x H1 => ∃ c, x = .bl c ∧ Q c H1
/-- an expression whose value is a bool, as a test -/
theorem pt_val {e : Expr} {t : TE} (h : PE X e t) (he : ∀ whole, isTrue e X.env whole = (do let v ← whole; standAt e.pos; holding [v] (truthy v)) := by intro _; rfl) : PT X e (tB t) := by
  intro pins s σ H Q I hw
  (refine isTrue_plain (thn (h pins s σ H _ I hw) ?_) (he _); rintro v s1 ⟨x, H1, I1, r1, q1⟩)
  obtain ⟨d, rfl, q⟩ := q1
  cases r1
  exact wpAny_truthy_bool ⟨H1, I1, q⟩

/-! ### and, or, not -/
variable {tA tB' : TT} {rest : List Expr}
noncomputable def tAnd (t u : TT) : TT := fun σ H Q => t σ H fun c H1 => if c = true then u σ H1 Q else Q false H1
noncomputable def tOr (t u : TT) : TT := fun σ H Q => t σ H fun c H1 => if c = true then Q true H1 else u σ H1 Q
noncomputable def tNot (t : TT) : TT := fun σ H Q => t σ H fun c H1 => Q (!c) H1
theorem pw_and1 (ha : PT X a tA) : PW X (.BoolOp .And [a] pos) tA := by
  intro wh pins s σ H Q I h
  refine isTrue_and (thn (ha pins s σ H Q I h) fun c s1 e => ?_)
  cases c with
  | true => exact isTrue_and_nil e
  | false => exact e
theorem pw_or1 (ha : PT X a tA) : PW X (.BoolOp .Or [a] pos) tA := by
  intro wh pins s σ H Q I h
  refine isTrue_or (thn (ha pins s σ H Q I h) fun c s1 e => ?_)
  cases c with
  | false => exact isTrue_or_nil e
  | true => exact e
theorem pw_and (ha : PT X a tA) (hb : PW X (.BoolOp .And (b :: rest) pos) tB') : PW X (.BoolOp .And (a :: b :: rest) pos) (tAnd tA tB') := by
  intro wh pins s σ H Q I h
  (refine isTrue_and (thn (ha pins s σ H _ I h) ?_); rintro c s1 ⟨H1, I1, q1⟩)
  cases c with
  | true => exact hb wh pins s1 σ H1 Q I1 q1
  | false => exact ⟨H1, I1, q1⟩
theorem pw_or (ha : PT X a tA) (hb : PW X (.BoolOp .Or (b :: rest) pos) tB') : PW X (.BoolOp .Or (a :: b :: rest) pos) (tOr tA tB') := by
  intro wh pins s σ H Q I h
  (refine isTrue_or (thn (ha pins s σ H _ I h) ?_); rintro c s1 ⟨H1, I1, q1⟩)
  cases c with
  | true => exact ⟨H1, I1, q1⟩
  | false => exact hb wh pins s1 σ H1 Q I1 q1
theorem pt_not (ha : PT X a tA) : PT X (.UnaryOp .Not a pos) (tNot tA) := by
  intro pins s σ H Q I h
  exact isTrue_not (ha pins s σ H (fun c H1 => Q (!c) H1) I h)
/-- .. as values (bools) -/
noncomputable def tAndV (ta tb : TE) : TE := fun σ H Q => ta σ H fun x H1 => ∃ c, x = .bl c ∧ if c = true then tb σ H1 Q else Q (.bl false) H1
noncomputable def tNotV (ta : TE) : TE := fun σ H Q => ta σ H fun x H1 => ∃ c, x = .bl c ∧ Q (.bl (!c)) H1
theorem pe_one {op} {t : TE} (h : PE X a t) : PE X (.BoolOp op [a] pos) t := fun pins s σ H Q I hw => BoolOp_one (h pins s σ H Q I hw)
theorem pe_and (ha : PE X a ta) (hb : PE X (.BoolOp .And (b :: rest) pos) tb) : PE X (.BoolOp .And (a :: b :: rest) pos) (tAndV ta tb) := by
  intro pins s σ H Q I h
  (refine BoolOp_and (thn (ha pins s σ H _ I h) ?_); rintro v s1 ⟨x, H1, I1, r1, q1⟩)
  obtain ⟨c, rfl, q1⟩ := q1
  cases r1
  refine wpAny_truthy_bool ?_
  cases c with
  | true => exact hb pins s1 σ H1 Q I1 q1
  | false => exact ⟨.bl false, H1, I1, rfl, q1⟩
theorem pe_not (ha : PE X a ta) : PE X (.UnaryOp .Not a pos) (tNotV ta) := by
  intro pins s σ H Q I h
  (refine UnaryOp_ (thn (ha pins s σ H _ I h) ?_); rintro v s1 ⟨x, H1, I1, r1, q1⟩)
  obtain ⟨c, rfl, q1⟩ := q1
  cases r1
  exact not_of (wpAny_truthy_bool ⟨.bl (!c), H1, I1, rfl, q1⟩)
end
end L2

namespace L2
open PySem PySem.Spec PyProof.Rows

/-! ### a list, a tuple that is read: tracked, frozen, or an object of the module -/
noncomputable def SqL (K : PySem.W.Frag) (H : Hp) (a : Addr) (xs : List V) : Prop :=
  Rd H a (.lst xs) ∨
    ∃ (o : Obj) (its : Array Value) (n : Nat), K.lookup a = some o ∧ o.cls = .type "list" ∧ o.dict = none ∧ o.data = .seq its n ∧ its.size ≤ sizeLine ∧ Vals xs its.toList
noncomputable def SqT (K : PySem.W.Frag) (H : Hp) (a : Addr) (xs : List V) : Prop :=
  Rd H a (.tup xs) ∨
    ∃ (o : Obj) (its : Array Value) (n : Nat), K.lookup a = some o ∧ o.cls = .type "tuple" ∧ o.data = .seq its n ∧ its.size ≤ sizeLine ∧ Vals xs its.toList ∧ o.dict = none
noncomputable def absV : Value → Option V
  | .none => some .non
  | .bool b => some (.bl b)
  | .int i _ => some (.int i)
  | .str x _ => some (.str x)
  | .bytes b _ => some (.byt b)
  | .float b _ => some (.flt b)
  | .ref a => some (.ref a)
  | .type n => some (.ty n)
  | _ => none
theorem RelV.abs {x : V} {u : Value} (r : RelV x u) : absV u = some x := by
  cases x with
  | non => cases r; rfl
  | bl _ => cases r; rfl
  | int _ => obtain ⟨t, rfl⟩ := r; rfl
  | str _ => obtain ⟨t, rfl⟩ := r; rfl
  | byt _ => obtain ⟨t, rfl⟩ := r; rfl
  | flt _ => obtain ⟨t, rfl⟩ := r; rfl
  | ref _ => cases r; rfl
  | ty _ => cases r; rfl
theorem RelV.inj {x y : V} {u : Value} (r : RelV x u) (q : RelV y u) : x = y := Option.some.inj (r.abs.symm.trans q.abs)
theorem Vals.inj : ∀ {xs ys : List V} {us : List Value}, Vals xs us → Vals ys us → xs = ys
  | _, _, _, .nil, .nil => rfl
  | _, _, _, .cons r t, .cons r' t' => by rw [r.inj r', Vals.inj t t']
section
variable {X : Cx} {pins : List (Addr × Obj)} {σ : St} {H : Hp} {s : Shared} {a : Addr} {xs ys : List V}
theorem SqL.of {K : PySem.W.Frag} (h : H a = some (.lst xs)) : SqL K H a xs := .inl (.inl h)
theorem SqT.of {K : PySem.W.Frag} (h : H a = some (.tup xs)) : SqT K H a xs := .inl (.inl h)
theorem Inv.list (I : Inv X pins σ H s) (h : SqL X.K H a xs) : ∃ its : List Value, Vals xs its ∧ PlainL s.heap a its.toArray ∧ xs.length ≤ sizeLine := by
  rcases h with h | ⟨o, its, n, hk, hc, hd, hs, hz, r⟩
  · obtain ⟨z, its, n, r, e⟩ := h.ok I.hok
    exact ⟨its, r, ⟨_, n, e, rfl, rfl, rfl⟩, z⟩
  · refine ⟨its.toList, r, ⟨o, n, I.kIn a o hk, hc, hd, by simpa using hs⟩, ?_⟩
    have e := r.length
    simp only [Array.length_toList] at e
    omega
theorem Inv.tuple (I : Inv X pins σ H s) (h : SqT X.K H a xs) : ∃ its : List Value, Vals xs its ∧ IsTup s.heap a its.toArray ∧ xs.length ≤ sizeLine := by
  rcases h with h | ⟨o, its, n, hk, hc, hs, hz, r, _⟩
  · obtain ⟨z, its, r, p⟩ := h.ok I.hok
    exact ⟨its, r, p.tup, z⟩
  · refine ⟨its.toList, r, ⟨o, I.kIn a o hk, hc, n, by simpa using hs⟩, ?_⟩
    have e := r.length
    simp only [Array.length_toList] at e
    omega
theorem Inv.list_inj (I : Inv X pins σ H s) (h : SqL X.K H a xs) (h' : SqL X.K H a ys) : xs = ys := by
  obtain ⟨its, r, ⟨o, n, e, _, _, d⟩, _⟩ := I.list h
  obtain ⟨its', r', ⟨o', n', e', _, _, d'⟩, _⟩ := I.list h'
  rw [e] at e'; cases e'
  rw [d] at d'
  injection d' with d1 _
  have : its = its' := by simpa using congrArg Array.toList d1
  subst this
  exact r.inj r'
theorem Inv.tuple_inj (I : Inv X pins σ H s) (h : SqT X.K H a xs) (h' : SqT X.K H a ys) : xs = ys := by
  obtain ⟨its, r, ⟨o, e, _, n, d⟩, _⟩ := I.tuple h
  obtain ⟨its', r', ⟨o', e', _, n', d'⟩, _⟩ := I.tuple h'
  rw [e] at e'; cases e'
  rw [d] at d'
  injection d' with d1 _
  have : its = its' := by simpa using congrArg Array.toList d1
  subst this
  exact r.inj r'
end

/-! ### another wish about exceptions -/
noncomputable abbrev Cx.wish (X : Cx) (E : Value → Shared → Prop) : Cx := { X with xe := E }
/-- no exception leaves -/
noncomputable abbrev Cx.nox (X : Cx) : Cx := X.wish fun _ _ => False
theorem Cx.Ok.wish {X : Cx} (ok : X.Ok) (E : Value → Shared → Prop) : (X.wish E).Ok :=
  ⟨ok.mod, ok.kind, ok.glob, ok.blt, ok.above, ok.inj, ok.has, ok.cab, ok.hd, ok.frames, ok.stk, ok.exf, ok.bs, ok.bsz, ok.noex, ok.exfs, ok.funs, ok.frf⟩
theorem Cx.Ok.unwish {X : Cx} {E : Value → Shared → Prop} (ok : (X.wish E).Ok) : X.Ok :=
  ⟨ok.mod, ok.kind, ok.glob, ok.blt, ok.above, ok.inj, ok.has, ok.cab, ok.hd, ok.frames, ok.stk, ok.exf, ok.bs, ok.bsz, ok.noex, ok.exfs, ok.funs, ok.frf⟩
section
variable {X : Cx} {pins : List (Addr × Obj)} {σ : St} {H : Hp} {s : Shared} {E : Value → Shared → Prop}
theorem Inv.wish (I : Inv X pins σ H s) (E : Value → Shared → Prop) : Inv (X.wish E) pins σ H s := ⟨I.ok.wish E, I.os, I.bare, I.base, I.loc, I.cell, I.free, I.freeC, I.pin, I.hok, I.len⟩
theorem Inv.unwish (I : Inv (X.wish E) pins σ H s) : Inv X pins σ H s := ⟨I.ok.unwish, I.os, I.bare, I.base, I.loc, I.cell, I.free, I.freeC, I.pin, I.hok, I.len⟩
theorem SP.unwish {D : Ends} {f : Flow} {s' : Shared} (h : SP (X.wish E) pins D f s') : SP X pins D f s' := by
  cases f with
  | next => obtain ⟨σ', H', I, q⟩ := h; exact ⟨σ', H', I.unwish, q⟩
  | brk => obtain ⟨σ', H', I, q⟩ := h; exact ⟨σ', H', I.unwish, q⟩
  | cont => obtain ⟨σ', H', I, q⟩ := h; exact ⟨σ', H', I.unwish, q⟩
  | ret u => obtain ⟨v, σ', H', I, r, q⟩ := h; exact ⟨v, σ', H', I.unwish, r, q⟩
theorem PE.nox {e : Expr} {t : TE} (h : PE X.nox e t) : PE X e t := fun pins s σ H Q I hw =>
  wpAny_mono (h pins s σ H Q (I.wish _) hw) (fun _ _ ⟨v, H', I', r, q⟩ => ⟨v, H', I'.unwish, r, q⟩) fun _ _ z => False.elim z
theorem PT.nox {e : Expr} {t : TT} (h : PT X.nox e t) : PT X e t := fun pins s σ H Q I hw =>
  wpAny_mono (h pins s σ H Q (I.wish _) hw) (fun _ _ ⟨H', I', q⟩ => ⟨H', I'.unwish, q⟩) fun _ _ z => False.elim z
theorem PSs.nox {st : List Stmt} {t : TS} (h : PSs X.nox st t) : PSs X st t := fun pins s σ H D I hw =>
  wpAny_mono (h pins s σ H D (I.wish _) hw) (fun _ _ q => q.unwish) fun _ _ z => False.elim z
end

/-! ### blocks and small statements -/
section
variable {X : Cx} {st : Stmt} {rest : List Stmt} {t u : TS} {e : Expr} {te : TE} {pos : Pos}
noncomputable def tNext : TS := fun D σ H => D.nx σ H
noncomputable def tSeq (t u : TS) : TS := fun D σ H => t { D with nx := u D } σ H
theorem pss_nil : PSs X [] tNext := fun _ _ σ H _ I h => wpAny_execs_nil ⟨σ, H, I, h⟩
theorem pss_cons (h1 : PS X st t) (h2 : PSs X rest u) : PSs X (st :: rest) (tSeq t u) := by
  intro pins s σ H D I h
  refine wpAny_execs_cons (thn (h1 pins s σ H { D with nx := u D } I h) fun f s1 q => ?_)
  cases f with
  | next =>
    obtain ⟨σ', H', I', q⟩ := q
    exact h2 pins s1 σ' H' D I' q
  | ret v => exact q
  | brk => exact q
  | cont => exact q
theorem pss_one (h1 : PS X st t) : PSs X [st] t := by
  intro pins s σ H D I h
  refine wpAny_execs_cons (thn (h1 pins s σ H D I h) fun f s1 q => ?_)
  cases f with
  | next => exact wpAny_execs_nil q
  | ret v => exact q
  | brk => exact q
  | cont => exact q
/-- in a def's body nothing is shown -/
theorem Inv.quiet {pins : List (Addr × Obj)} {σ : St} {H : Hp} {s : Shared} (I : Inv X pins σ H s) : interactive X.env = false := by simp [interactive, I.ok.kind]
/-- an expression whose value is dropped -/
noncomputable def tDrop (te : TE) : TS := fun D σ H => te σ H fun _ H1 => D.nx σ H1
theorem ps_expr (he : PE X e te) (hs : swapsWith e none pos.line X.env = pure false := by rfl) : PS X (.Expr e pos) (tDrop te) := by
  intro pins s σ H D I h
  (refine wpAny_Expr_any (thn (he pins s σ H _ I h) ?_) I.quiet hs; rintro v s1 ⟨x, H1, I1, r1, q1⟩; exact ⟨σ, H1, I1, q1⟩)
noncomputable def tRet (te : TE) : TS := fun D σ H => te σ H D.rt
theorem ps_ret (he : PE X e te) : PS X (.Return (some e) pos) (tRet te) := by
  intro pins s σ H D I h
  (refine wpAny_Return_some (thn (he pins s σ H _ I h) ?_); rintro v s1 ⟨x, H1, I1, r1, q1⟩; exact ⟨x, σ, H1, I1, r1, q1⟩)
noncomputable def tIfS (c : TT) (t u : TS) : TS := fun D σ H => c σ H fun b H1 => if b = true then t D σ H1 else u D σ H1
theorem ps_if {c : Expr} {a b : List Stmt} {tc : TT} (hc : PT X c tc) (ha : PSs X a t) (hb : PSs X b u) : PS X (.If c a b pos) (tIfS tc t u) := by
  intro pins s σ H D I h
  (refine wpAny_If (thn (hc pins s σ H _ I h) ?_); rintro d s1 ⟨H1, I1, q1⟩)
  cases d with
  | true => exact ha pins s1 σ H1 D I1 q1
  | false => exact hb pins s1 σ H1 D I1 q1
/-- code that the proof never comes to -/
noncomputable def tNever : TS := fun _ _ _ => False
theorem ps_never : PS X st tNever := fun _ _ _ _ _ _ h => h.elim
end

/-! ### targets -/
noncomputable abbrev TG := V → St → Hp → (St → Hp → Prop) → Prop
noncomputable abbrev TGs := List V → St → Hp → (St → Hp → Prop) → Prop
noncomputable def PG (X : Cx) (target : Expr) (t : TG) : Prop :=
  ∀ (pins : List (Addr × Obj)) (s : Shared) (σ : St) (H : Hp) (v : V) (u : Value) (Q : St → Hp → Prop), Inv X pins σ H s → RelV v u → t v σ H Q →
    wpAny (model X.prog X.w) X.A (assign target X.env u) (fun _ s' => ∃ σ' H', Inv X pins σ' H' s' ∧ Q σ' H') X.xe s
/-- several targets, one after another -/
noncomputable def PGs (X : Cx) (ts : List Expr) (t : TGs) : Prop :=
  ∀ (pins : List (Addr × Obj)) (s : Shared) (σ : St) (H : Hp) (vs : List V) (us : List Value) (Q : St → Hp → Prop), Inv X pins σ H s → Vals vs us → t vs σ H Q →
    wpAny (model X.prog X.w) X.A (assignInOrder ((assignEach ts X.env).map (·.2)) us) (fun _ s' => ∃ σ' H', Inv X pins σ' H' s' ∧ Q σ' H') X.xe s
/-- o[i] = v, by values -/
noncomputable abbrev TSet := V → V → V → Hp → (Hp → Prop) → Prop
noncomputable def PSet (X : Cx) (t : TSet) : Prop :=
  ∀ (pins : List (Addr × Obj)) (s : Shared) (σ : St) (H : Hp) (o i v : V) (ov iv u : Value) (Q : Hp → Prop), Inv X pins σ H s → RelV o ov → RelV i iv → RelV v u → t o i v H Q →
    wpAny (model X.prog X.w) X.A (setItem ov iv u) (fun _ s' => ∃ H', Inv X pins σ H' s' ∧ Q H') X.xe s
/-- a op= b, by values -/
noncomputable abbrev TIp := V → V → Hp → VK → Prop
noncomputable def PIp (X : Cx) (op : Operator) (t : TIp) : Prop :=
  ∀ (pins : List (Addr × Obj)) (s : Shared) (σ : St) (H : Hp) (x y : V) (v u : Value) (Q : VK), Inv X pins σ H s → RelV x v → RelV y u → t x y H Q →
    wpAny (model X.prog X.w) X.A (inplaceOp op v u) (EP X pins σ Q) X.xe s
section
variable {X : Cx} {pos : Pos}
noncomputable def gName (i : Nat) : TG := fun v σ H Q => Q (σ.set i (some v)) H
theorem pg_name {i : Nat} {x : Str} (hN : X.N.Nodup) (hi : X.N[i]? = some x) (hx : Loc X.env.scope x) (hf : X.fn x = true ∨ X.env.scope.names.lookup x = some .local := by first | exact .inl rfl | exact .inr rfl | assumption) : PG X (.Name x pos) (gName i) := by
  intro pins s σ H v u Q I r h
  exact wpAny_assign_Name (store_ok I hN hi hx r (fun s' I' => ⟨_, H, I', h⟩) hf)
noncomputable def gNil : TGs := fun vs σ H Q => vs = [] ∧ Q σ H
noncomputable def gCons (t : TG) (u : TGs) : TGs := fun vs σ H Q => ∃ v r, vs = v :: r ∧ t v σ H fun σ' H' => u r σ' H' Q
theorem pgs_nil : PGs X [] gNil := by
  intro pins s σ H vs us Q I r h
  obtain ⟨e, h⟩ := h
  subst e
  cases r
  exact assignInOrder_nil ⟨σ, H, I, h⟩
theorem pgs_cons {e : Expr} {es : List Expr} {t : TG} {u : TGs} (h1 : PG X e t) (h2 : PGs X es u)
    (hs : (assignEach (e :: es) X.env).map (·.2) = assign e X.env :: (assignEach es X.env).map (·.2) := by rfl) : PGs X (e :: es) (gCons t u) := by
  intro pins s σ H vs us Q I r h
  obtain ⟨v, vr, e1, h⟩ := h
  subst e1
  cases r with
  | cons r rr =>
    rw [hs]
    (refine assignInOrder_cons (thn (h1 pins s σ H _ _ _ I r h) ?_); rintro _ s1 ⟨σ1, H1, I1, q1⟩)
    exact h2 pins s1 σ1 H1 _ _ Q I1 rr q1
/-- (a, b, ..) = a tuple of that length -/
noncomputable def gTup (K : PySem.W.Frag) (n : Nat) (t : TGs) : TG := fun v σ H Q => ∃ a xs, v = .ref a ∧ SqT K H a xs ∧ xs.length = n ∧ t xs σ H Q
theorem pg_tup {es : List Expr} {k : Nat} {t : TGs} {n : Nat} (hc : X.calm = true) (h : PGs X es t)
    (hn : (assignEach es X.env).length = n := by rfl) (hst : (assignEach es X.env).findIdx? (·.1) = none := by rfl) : PG X (.Tuple es k pos) (gTup X.K n t) := by
  intro pins s σ H v u Q I r hw
  obtain ⟨a, xs, e1, hq, hl, hw⟩ := hw
  subst e1
  cases r
  obtain ⟨its, rv, ht, hz⟩ := I.tuple hq
  refine assign_Tuple_tuple (I.ok.hd hc) ht (by simp [hn, ← hl, rv.length]) hst fun h' hx => ?_
  have I1 : Inv X pins σ H { s with heap := h' } := I.kept (t' := s.toks) fun b o e => hx b o (Nat.ne_of_lt (Heap.lt_size e)) e
  exact h pins _ σ H xs _ Q I1 (by simpa using rv) hw
/-- o[i] = .. -/
noncomputable def gSub (to ti : TE) (t : TSet) : TG := fun v σ H Q => to σ H fun o H1 => ti σ H1 fun i H2 => t o i v H2 fun H3 => Q σ H3
theorem pg_sub {o i : Expr} {to ti : TE} {t : TSet} (ho : PE X o to) (hi : PE X i ti) (hs : PSet X t)
    (ha : ∀ v, assign (.Subscript o i pos) X.env v = (do
      let ov ← holding [v] (eval o X.env)
      let iv ← holding [v, ov] (eval i X.env)
      standAt pos
      holding [v, ov, iv] (setItem ov iv v)
      release [v, ov, iv] []) := by intro _; rfl) : PG X (.Subscript o i pos) (gSub to ti t) := by
  intro pins s σ H v u Q I r h
  rw [ha]
  (refine wpAny_bind (wpAny_holding (thn (ho pins s σ H _ I h) ?_)); rintro ov s1 ⟨x, H1, I1, r1, q1⟩)
  (refine wpAny_bind (wpAny_holding (thn (hi pins s1 σ H1 _ I1 q1) ?_)); rintro iv s2 ⟨y, H2, I2, r2, q2⟩)
  (refine wpAny_bind (wpAny_standAt (wpAny_bind (wpAny_holding (thn (hs pins s2 σ H2 x y v ov iv u _ I2 r1 r2 r q2) ?_)))); rintro _ s3 ⟨H3, I3, q3⟩)
  exact wpAny_release ⟨σ, H3, I3, q3⟩
/-- target = value -/
noncomputable def tAsg (te : TE) (g : TG) : TS := fun D σ H => te σ H fun x H1 => g x σ H1 D.nx
theorem ps_asg {tg e : Expr} {te : TE} {g : TG} (he : PE X e te) (hg : PG X tg g) (hs : swapsWithSole [tg] e pos.line X.env = pure false := by rfl) (hw : swappedStores [tg] e X.env = pure none := by rfl)
    (h1 : (assignEach [tg] X.env).map (·.2) = [assign tg X.env] := by rfl) : PS X (.Assign [tg] e pos) (tAsg te g) := by
  intro pins s σ H D I h
  (refine wpAny_Assign_stores (thn (he pins s σ H _ I h) ?_) hs hw; rintro v s1 ⟨x, H1, I1, r1, q1⟩)
  rw [h1]
  exact thn (hg pins s1 σ H1 x v _ I1 r1 q1) fun _ s2 q => q
/-- name = value -/
theorem ps_set {i : Nat} {x : Str} {e : Expr} {te : TE} {pos' : Pos} (hN : X.N.Nodup) (hi : X.N[i]? = some x) (hx : Loc X.env.scope x) (he : PE X e te) (hs : swapsWith e (some (.Name x pos')) pos.line X.env = pure false := by rfl) (hf : X.fn x = true ∨ X.env.scope.names.lookup x = some .local := by first | exact .inl rfl | exact .inr rfl | assumption) :
    PS X (.Assign [.Name x pos'] e pos) (tAsg te (gName i)) := by
  intro pins s σ H D I h
  (refine wpAny_Assign_Name (thn (he pins s σ H _ I h) ?_) hs; rintro v s1 ⟨y, H1, I1, r1, q1⟩)
  exact store_ok I1 hN hi hx r1 (fun s2 I2 => ⟨_, H1, I2, q1⟩) hf
/-- name op= e -/
noncomputable def tAug (i : Nat) (te : TE) (ti : TIp) : TS := fun D σ H => ∃ x, σ[i]? = some (some x) ∧ te σ H fun y H1 => ti x y H1 fun z H2 => D.nx (σ.set i (some z)) H2
theorem ps_aug {i : Nat} {x : Str} {e : Expr} {te : TE} {op : Operator} {ti : TIp} {pos' : Pos} (hN : X.N.Nodup) (hi : X.N[i]? = some x) (hx : Loc X.env.scope x) (he : PE X e te) (ho : PIp X op ti) (hf : X.fn x = true ∨ X.env.scope.names.lookup x = some .local := by first | exact .inl rfl | exact .inr rfl | assumption) :
    PS X (.AugAssign (.Name x pos') op e pos) (tAug i te ti) := by
  intro pins s σ H D I h
  obtain ⟨v, e1, h⟩ := h
  obtain ⟨m, hn, hl⟩ := I.loc
  have vis : Vis X.env.scope x := by rcases hx with k | k; exact .inl k; exact .inr (.inl k)
  obtain ⟨u, r, l⟩ := hl i x v hi e1 vis
  refine wpAny_AugAssign_Name ?_
  have go : wpAny (model X.prog X.w) X.A (eval e X.env) (fun w s₂ => wpAny (model X.prog X.w) X.A (inplaceOp op u w) (fun r s₃ => wpAny (model X.prog X.w) X.A (storeName X.env x r) (fun _ => SP X pins D .next) X.xe s₃) X.xe s₂) X.xe s := by
    (refine thn (he pins s σ H _ I h) ?_; rintro w s1 ⟨y, H1, I1, r1, q1⟩)
    (refine thn (ho pins s1 σ H1 v y u w _ I1 r r1 q1) ?_; rintro z s2 ⟨zv, H2, I2, r2, q2⟩)
    exact store_ok I2 hN hi hx r2 (fun s3 I3 => ⟨_, H2, I3, q2⟩) hf
  rcases l with ⟨hk, hm⟩ | ⟨hk, c, hc, hcell⟩
  · exact wpAny_loadName_local I.ok.kind hk hn hm go
  · rcases hk with hk | hk
    · exact wpAny_loadName_cell I.ok.kind hk hc hcell go
    · rcases hx with k | k
      · have : X.env.scope.names.lookup x = some .free := hk
        rw [k] at this; cases this
      · have : X.env.scope.names.lookup x = some .free := hk
        rw [k] at this; cases this
end

/-! ### while -/
section
variable {X : Cx} {pos : Pos}
/-- the invariant W with its measure -/
noncomputable def tWhile (c : TT) (tb : TS) : TS := fun D σ H => ∃ W : Nat → St → Hp → Prop, (∃ m, W m σ H) ∧ ∀ m σ H, W m σ H →
  c σ H fun b H1 => if b = true then ∃ N : St → Hp → Prop, (∀ σ' H', N σ' H' → ∃ m', m' < m ∧ W m' σ' H') ∧ tb { D with nx := N, ct := N, bk := D.nx } σ H1 else D.nx σ H1
theorem ps_while {c : Expr} {body : List Stmt} {tc : TT} {tb : TS} (hp : PassesOwn (model X.prog X.w) X.A X.env X.xe) (hc : PT X c tc) (hb : PSs X body tb) : PS X (.While c body [] pos) (tWhile tc tb) := by
  intro pins s σ H D I h
  obtain ⟨W, ⟨m0, w0⟩, turn⟩ := h
  refine wpAny_While (codeAny_whileLoop (fun n s' => ∃ σ' H', Inv X pins σ' H' s' ∧ W n σ' H') ?_ m0 ⟨σ, H, I, w0⟩)
  rintro n s1 ⟨σ1, H1, I1, w1⟩
  (refine wpAny_passesOwn hp (thn (hc pins s1 σ1 H1 _ I1 (turn n σ1 H1 w1)) ?_); rintro b s2 ⟨H2, I2, q2⟩)
  cases b with
  | true =>
    obtain ⟨N, hN, q2⟩ := q2
    rw [if_pos rfl]
    refine wpAny_passesOwn hp (thn (hb pins s2 σ1 H2 _ I2 q2) fun f s3 q3 => ?_)
    cases f with
    | next =>
      obtain ⟨σ3, H3, I3, n3⟩ := q3
      obtain ⟨m', hm, w3⟩ := hN σ3 H3 n3
      exact ⟨m', hm, σ3, H3, I3, w3⟩
    | cont =>
      obtain ⟨σ3, H3, I3, n3⟩ := q3
      obtain ⟨m', hm, w3⟩ := hN σ3 H3 n3
      exact ⟨m', hm, σ3, H3, I3, w3⟩
    | brk => exact q3
    | ret v => exact q3
  | false =>
    rw [if_neg Bool.false_ne_true]
    exact wpAny_execs_nil ⟨σ1, H2, I2, q2⟩
end

/-! ### what a loop or a comprehension walks -/
/-- at turn i: it yields x (the heap may grow), or it stops -/
structure It where
  go : Nat → Hp → Prop
  yld : Nat → Hp → V → Hp → Prop
  stop : Nat → Hp → Prop
/-- the iterator's own objects may turn: they are not the frame's, not pinned, younger than the entry (or a comprehension's own) -/
noncomputable def FpOk (X : Cx) (pins : List (Addr × Obj)) (H : Hp) (b : Addr) : Prop :=
  H b = none ∧ b ≠ X.env.locals ∧ b ∉ X.fs ∧ (b ∈ X.ex ∨ X.s₀.heap.objs.size ≤ b) ∧ (∀ x c, X.env.cells.lookup x = some c → c ≠ b) ∧ ∀ p ∈ X.pn ++ pins, p.1 ≠ b
theorem Inv.fpOk {X : Cx} {pins : List (Addr × Obj)} {σ : St} {H H' : Hp} {s : Shared} {b : Addr} (I : Inv X pins σ H s) (hb : s.heap.objs.size ≤ b) (hn : H' b = none) : FpOk X pins H' b := by
  refine ⟨hn, Nat.ne_of_gt (Nat.lt_of_lt_of_le I.lt hb), I.nofs hb, .inr (Nat.le_trans I.sz hb), fun x c e z => ?_, fun p hp z => ?_⟩
  · obtain ⟨v, q⟩ := I.cell x c e
    exact absurd (Nat.lt_of_lt_of_le q.lt (by rw [z]; exact hb)) (Nat.lt_irrefl _)
  · exact absurd (Nat.lt_of_lt_of_le (Heap.lt_size (I.pin p hp).1) (by rw [z]; exact hb)) (Nat.lt_irrefl _)
structure Turn (P : Program) (w : World) (K : PySem.W.Frag) (tg : Expr) (J : It) (fp : List Addr) (it : Addr) (tn : Nat → Heap → Prop) : Prop where
  mem : it ∈ fp
  obj : ∀ i h, tn i h → ∀ b ∈ fp, ∃ o, h.get? b = some o ∧ ∀ v, o.data ≠ .cell v
  keep : ∀ i h h', tn i h → (∀ b ∈ fp, ∀ o, h.get? b = some o → h'.get? b = some o) → tn i h'
  item : ∀ (X : Cx), X.prog = P → X.w = w → X.K = K → X.calm = true → ∀ (i : Nat) (pins : List (Addr × Obj)) (s : Shared) (σ : St) (H : Hp) (E : Value → Shared → Prop), Inv X pins σ H s → (∀ b ∈ fp, FpOk X pins H b) → tn i s.heap → J.go i H →
    wpAny (model P w) X.A (pyNext (.ref it)) (fun r s1 => ∃ u, r = some u ∧
      wpAny (model P w) X.A (letOwnedTupleGo tg (.ref it) u) (fun _ s2 => ∃ x H', Inv X pins σ H' s2 ∧ RelV x u ∧ J.yld i H x H' ∧ tn (i + 1) s2.heap ∧ ∀ b ∈ fp, H' b = none) E s1) E s
  done : ∀ (X : Cx), X.prog = P → X.w = w → X.K = K → X.calm = true → ∀ (i : Nat) (pins : List (Addr × Obj)) (s : Shared) (σ : St) (H : Hp) (E : Value → Shared → Prop), Inv X pins σ H s → (∀ b ∈ fp, FpOk X pins H b) → tn i s.heap → J.stop i H →
    wpAny (model P w) X.A (pyNext (.ref it)) (fun r s1 => r = none ∧ Inv X pins σ H s1) E s
  self : ∀ (A : Around) (i : Nat) (s : Shared) (Q : Value → Shared → Prop) (E : Value → Shared → Prop), tn i s.heap → Q (.ref it) s → wpAny (model P w) A (pyIter (.ref it)) Q E s
noncomputable abbrev TI := St → Hp → (It → Hp → Prop) → Prop
/-- an iterator has come -/
noncomputable def PIE (X : Cx) (pins : List (Addr × Obj)) (σ : St) (tg : Expr) (R : It → Hp → Prop) (itv : Value) (s2 : Shared) : Prop :=
  ∃ (it : Addr) (fp : List Addr) (tn : Nat → Heap → Prop) (J : It) (H' : Hp), itv = .ref it ∧ Inv X pins σ H' s2 ∧ Turn X.prog X.w X.K tg J fp it tn ∧ tn 0 s2.heap ∧ (∀ b ∈ fp, FpOk X pins H' b) ∧ R J H'
noncomputable def PI (X : Cx) (tg iter : Expr) (wi : TI) : Prop :=
  ∀ (pins : List (Addr × Obj)) (s : Shared) (σ : St) (H : Hp) (R : It → Hp → Prop), Inv X pins σ H s → wi σ H R →
    wpAny (model X.prog X.w) X.A (eval iter X.env) (fun v s1 => wpAny (model X.prog X.w) X.A (pyIter v) (PIE X pins σ tg R) X.xe s1) X.xe s

/-- the step ahead of the store is nothing for an iterator that keeps no tuple -/
theorem go_of {M : Model} {A : Around} {E : Value → Shared → Prop} {s : Shared} {tg : Expr} {it : Addr} {u : Value} {o : Obj} {n : String} {vs : Array Value} {Q : Unit → Shared → Prop} (ho : s.heap.get? it = some o) (hc : o.cls = .type n) (hd : o.data = .fields vs)
    (hn : ["enumerate", "zip", "dict_itemiterator", "dict_reverseitemiterator", "odict_iterator", "itertools.zip_longest", "itertools.pairwise"].contains n = false) (hQ : Q () s) : wpAny M A (letOwnedTupleGo tg (.ref it) u) Q E s := by
  unfold letOwnedTupleGo
  cases tg <;> first
    | exact wpAny_pure hQ
    | (cases u <;> first
        | exact wpAny_pure hQ
        | (refine wpAny_bind (wpAny_load ho ?_)
           rw [hc, hd]
           show wpAny M A (if (["enumerate", "zip", "dict_itemiterator", "dict_reverseitemiterator", "odict_iterator", "itertools.zip_longest", "itertools.pairwise"].contains n && vs[0]? == some (rawInt _)) = true then _ else _) Q E s
           rw [if_neg (by intro h; rw [hn, Bool.false_and] at h; cases h)]
           exact wpAny_pure hQ))

/-- the list at a, as it stands at each turn (a loop may append to it) -/
noncomputable def Itl (K : PySem.W.Frag) (a : Addr) : It :=
  ⟨fun i H => ∃ xs x, SqL K H a xs ∧ xs[i]? = some x, fun i H x H' => H' = H ∧ ∀ xs, SqL K H a xs → xs[i]? = some x, fun i H => ∃ xs, SqL K H a xs ∧ xs.length ≤ i⟩
noncomputable def Itt (K : PySem.W.Frag) (a : Addr) : It :=
  ⟨fun i H => ∃ xs x, SqT K H a xs ∧ xs[i]? = some x, fun i H x H' => H' = H ∧ ∀ xs, SqT K H a xs → xs[i]? = some x, fun i H => ∃ xs, SqT K H a xs ∧ xs.length ≤ i⟩
/-- lo, lo + 1, .. (n of them) -/
noncomputable def Itr (lo : Int) (n : Nat) : It := ⟨fun i _ => i < n, fun i H x H' => H' = H ∧ x = .int (lo + i), fun i _ => n ≤ i⟩
theorem turn_list {P : Program} {w : World} {K : PySem.W.Frag} {tg : Expr} (a it : Addr) : Turn P w K tg (Itl K a) [it] it (fun i h => h.IsListIter it a i) where
  mem := by simp
  obj := fun i h st b hb => by
    have e : b = it := by simpa using hb
    subst e
    obtain ⟨o, e, c, d⟩ := st
    exact ⟨o, e, fun v z => by rw [d] at z; cases z⟩
  keep := fun i h h' st k => st.at fun o e => k it (by simp) o e
  item := by
    intro X hP hw hK hc i pins s σ H E I hf st hg
    subst hP hw hK
    obtain ⟨xs, x, hq, hx⟩ := hg
    obtain ⟨its, rv, p, hz⟩ := I.list hq
    obtain ⟨u, hu, ru⟩ := rv.get hx
    obtain ⟨f0, f1, f2, f3, f4, f5⟩ := hf it (by simp)
    refine wpAny_pyNext_list_item st p.isList (x := u) (by simpa using hu) fun h' st' sb => ?_
    have I1 : Inv X pins σ H { s with heap := h' } := I.turned (t' := s.toks) (fun b o hb e => (sb.2 b hb).trans e) f0 f1 f3 f4 f5
    obtain ⟨o, e, c, d⟩ := id st'
    exact ⟨u, rfl, go_of (s := { s with heap := h' }) e c d (by decide) ⟨x, H, I1, ru, ⟨rfl, fun ys hy => by rw [I.list_inj hy hq]; exact hx⟩, st', fun b hb => (hf b hb).1⟩⟩
  done := by
    intro X hP hw hK hc i pins s σ H E I hf st hg
    subst hP hw hK
    obtain ⟨xs, hq, hx⟩ := hg
    obtain ⟨its, rv, p, hz⟩ := I.list hq
    obtain ⟨f0, f1, f2, f3, f4, f5⟩ := hf it (by simp)
    have hl := rv.length
    exact wpAny_pyNext_list_end (I.ok.hd hc) st p.isList (by simp; omega) fun h' eb => ⟨rfl, I.turned (t' := s.toks) (fun b o hb e => eb b o hb e) f0 f1 f3 f4 f5⟩
  self := fun _ _ _ _ _ st h => wpAny_pyIter_listiter st h
theorem turn_tuple {P : Program} {w : World} {K : PySem.W.Frag} {tg : Expr} (a it : Addr) : Turn P w K tg (Itt K a) [it] it (fun i h => h.IsTupleIter it a i) where
  mem := by simp
  obj := fun i h st b hb => by
    have e : b = it := by simpa using hb
    subst e
    obtain ⟨o, e, c, d⟩ := st
    exact ⟨o, e, fun v z => by rw [d] at z; cases z⟩
  keep := fun i h h' st k => st.at fun o e => k it (by simp) o e
  item := by
    intro X hP hw hK hc i pins s σ H E I hf st hg
    subst hP hw hK
    obtain ⟨xs, x, hq, hx⟩ := hg
    obtain ⟨its, rv, p, hz⟩ := I.tuple hq
    obtain ⟨u, hu, ru⟩ := rv.get hx
    obtain ⟨f0, f1, f2, f3, f4, f5⟩ := hf it (by simp)
    refine wpAny_pyNext_tuple_item st (show s.heap.IsTuple a its.toArray from p) (x := u) (by simpa using hu) fun h' st' sb => ?_
    have I1 : Inv X pins σ H { s with heap := h' } := I.turned (t' := s.toks) (fun b o hb e => (sb.2 b hb).trans e) f0 f1 f3 f4 f5
    obtain ⟨o, e, c, d⟩ := id st'
    exact ⟨u, rfl, go_of (s := { s with heap := h' }) e c d (by decide) ⟨x, H, I1, ru, ⟨rfl, fun ys hy => by rw [I.tuple_inj hy hq]; exact hx⟩, st', fun b hb => (hf b hb).1⟩⟩
  done := by
    intro X hP hw hK hc i pins s σ H E I hf st hg
    subst hP hw hK
    obtain ⟨xs, hq, hx⟩ := hg
    obtain ⟨its, rv, p, hz⟩ := I.tuple hq
    obtain ⟨f0, f1, f2, f3, f4, f5⟩ := hf it (by simp)
    have hl := rv.length
    exact wpAny_pyNext_tuple_end (I.ok.hd hc) st (show s.heap.IsTuple a its.toArray from p) (by simp; omega) fun h' eb => ⟨rfl, I.turned (t' := s.toks) (fun b o hb e => eb b o hb e) f0 f1 f3 f4 f5⟩
  self := fun _ _ _ _ _ st h => wpAny_pyIter_tupleiter st h
theorem turn_range {P : Program} {w : World} {K : PySem.W.Frag} {tg : Expr} (it : Addr) (lo : Int) (n : Nat) : Turn P w K tg (Itr lo n) [it] it (fun i h => IsRangeIter h it (lo + (i : Nat) * 1) ((n : Int) - (i : Nat)) 1) where
  mem := by simp
  obj := fun i h st b hb => by
    have e : b = it := by simpa using hb
    subst e
    exact ⟨_, st, fun v z => by
      have z' : Data.fields _ = Data.cell v := z
      cases z'⟩
  keep := fun i h h' st k => k it (by simp) _ st
  item := by
    intro X hP hw hK hc i pins s σ H E I hf st hg
    subst hP hw hK
    obtain ⟨f0, f1, f2, f3, f4, f5⟩ := hf it (by simp)
    have W := Walks.range (prog := X.prog) (w := X.w) (I.ok.hd hc) it lo 1 n
    refine W.item i s _ _ hg st fun v h' tk hv st' kk => ?_
    obtain ⟨t, rfl⟩ := hv
    have I1 : Inv X pins σ H { s with heap := h', toks := tk } := I.turned (fun b o hb e => kk b o (by simpa using hb) e) f0 f1 f3 f4 f5
    refine ⟨_, rfl, go_of (s := { s with heap := h', toks := tk }) (n := "range_iterator") st' rfl rfl (by decide) ⟨.int (lo + i), H, I1, ⟨t, ?_⟩, ⟨rfl, rfl⟩, st', fun b hb => (hf b hb).1⟩⟩
    rw [Int.mul_one]
  done := by
    intro X hP hw hK hc i pins s σ H E I hf st hg
    subst hP hw hK
    obtain ⟨f0, f1, f2, f3, f4, f5⟩ := hf it (by simp)
    exact wpAny_pyNext_range_end (I.ok.hd hc) st (by have : n ≤ i := hg; omega) fun h' eb => ⟨rfl, I.turned (t' := s.toks) (fun b o hb e => eb b o hb e) f0 f1 f3 f4 f5⟩
  self := fun _ _ _ _ _ st h => wpAny_pyIter_rangeiter st h
end L2

namespace L2
open PySem PySem.Spec PyProof.Rows
section
variable {X : Cx} {tg : Expr}
/-- a range object just made, walked -/
theorem range_it {pins : List (Addr × Obj)} {σ : St} {H : Hp} {s : Shared} {R : It → Hp → Prop} {E : Value → Shared → Prop} {lo hi : Int} {t u v : Tok} {tk : Nat} (I : Inv X pins σ H s) (h1 : -(2 ^ 62) ≤ lo) (h2 : lo < 2 ^ 62) (h3 : -(2 ^ 62) ≤ hi) (h4 : hi < 2 ^ 62)
    (q : R (Itr lo (hi - lo).toNat) H) : wpAny (model X.prog X.w) X.A (pyIter (.ref s.heap.objs.size)) (PIE X pins σ tg R) E { s with heap := s.heap.push { cls := .type "range", data := .fields #[.int lo t, .int hi u, .int 1 v] }, toks := tk } := by
  refine wpAny_pyIter_range (IsRange.new ..) (small_one h1 h2 h3 h4) ?_
  have I1 : Inv X pins σ H { s with heap := s.heap.push { cls := .type "range", data := .fields #[.int lo t, .int hi u, .int 1 v] }, toks := tk } := I.kept fun b o e => Heap.get?_push_of_some _ e
  refine ⟨(s.heap.push { cls := .type "range", data := .fields #[.int lo t, .int hi u, .int 1 v] }).objs.size, [(s.heap.push { cls := .type "range", data := .fields #[.int lo t, .int hi u, .int 1 v] }).objs.size], _, _, H, rfl,
    I1.kept (t' := tk) fun b o e => Heap.get?_push_of_some _ e, turn_range _ lo (hi - lo).toNat, ?_, fun b hb => ?_, q⟩
  · have e1 : lo + ((0 : Nat) : Int) * 1 = lo := by simp
    have e2 : (((hi - lo).toNat : Nat) : Int) - ((0 : Nat) : Int) = Builtin.Range.rangeSize lo hi 1 := by rw [rangeSize_one]; split <;> omega
    show IsRangeIter _ _ (lo + ((0 : Nat) : Int) * 1) ((((hi - lo).toNat : Nat) : Int) - ((0 : Nat) : Int)) 1
    rw [e1, e2]
    exact Heap.get?_push_size _ rfl
  · have e : b = (s.heap.push { cls := .type "range", data := .fields #[.int lo t, .int hi u, .int 1 v] }).objs.size := by simpa using hb
    subst e
    exact I1.fpOk (Nat.le_refl _) (I1.hok.fresh (Nat.le_refl _))
noncomputable def iRng1 (ta : TA) : TI := fun σ H R => ta σ H fun vs H1 => ∃ j : Int, vs = [.int j] ∧ -(2 ^ 62) ≤ j ∧ j < 2 ^ 62 ∧ R (Itr 0 j.toNat) H1
theorem pi_range1 {a : Expr} {ta : TA} {p pos : Pos} (hg : Gl X "range") (hm : X.mg "range" = none) (ha : PA X [a] ta) (hs : starEach [a] X.env = [(false, eval a X.env)] := by rfl) : PI X tg (.Call (.Name "range" p) [a] [] pos) (iRng1 ta) := by
  intro pins s σ H R I h
  (refine Call_ (ld_blt I hg hm boot_range (PyProof.Rows.callWith_type1 (thn (ha pos pins s σ H _ I h) ?_) hs rfl)); rintro us s1 ⟨vs, H1, I1, r1, q1⟩)
  obtain ⟨j, e, q1, q2, q⟩ := q1
  subst e
  cases r1 with
  | cons r rr =>
    cases rr
    obtain ⟨t, rfl⟩ := r
    exact call_range_1 (range_it I1 (by omega) (by omega) q1 q2 (by simpa using q))

/-! ### for -/
/-- W: the invariant by the turn and a measure; N: what the body is to reach -/
noncomputable def tFor (wi : TI) (g : TG) (tb : TS) : TS := fun D σ H => wi σ H fun J H1 => ∃ W : Nat → Nat → St → Hp → Prop, (∃ m, W 0 m σ H1) ∧ ∀ i m σ H, W i m σ H →
  (J.stop i H ∧ D.nx σ H) ∨ (J.go i H ∧ ∃ N : St → Hp → Prop, (∀ σ' H', N σ' H' → ∃ m', m' < m ∧ W (i + 1) m' σ' H') ∧ ∀ x H', J.yld i H x H' → g x σ H' fun σ2 H2 => tb { D with nx := N, ct := N, bk := D.nx } σ2 H2)
/-- the records at fp as they stand -/
noncomputable def pinsAt (fp : List Addr) (h : Heap) : List (Addr × Obj) := fp.filterMap fun b => (h.get? b).map fun o => (b, o)
theorem mem_pinsAt {fp : List Addr} {h : Heap} {b : Addr} {o : Obj} (hb : b ∈ fp) (e : h.get? b = some o) : (b, o) ∈ pinsAt fp h := List.mem_filterMap.mpr ⟨b, hb, by rw [e]; rfl⟩
theorem of_pinsAt {fp : List Addr} {h : Heap} {p : Addr × Obj} (hp : p ∈ pinsAt fp h) : p.1 ∈ fp ∧ h.get? p.1 = some p.2 := by
  obtain ⟨b, hb, e⟩ := List.mem_filterMap.mp hp
  cases q : h.get? b with
  | none => rw [q] at e; cases e
  | some o =>
    rw [q] at e
    have e' : (b, o) = p := Option.some.inj e
    subst e'
    exact ⟨hb, q⟩
theorem Inv.pinned {pins : List (Addr × Obj)} {σ : St} {H : Hp} {s : Shared} {fp : List Addr} (I : Inv X pins σ H s) (hf : ∀ b ∈ fp, FpOk X pins H b) (ho : ∀ b ∈ fp, ∃ o, s.heap.get? b = some o ∧ ∀ v, o.data ≠ .cell v) : Inv X (pins ++ pinsAt fp s.heap) σ H s :=
  I.pins_of fun p hp => (List.mem_append.mp hp).elim (fun z => I.pin p (List.mem_append_right _ z)) fun z => by
    obtain ⟨hb, e⟩ := of_pinsAt z
    obtain ⟨f0, f1, f2, _⟩ := hf p.1 hb
    obtain ⟨o, e', d⟩ := ho p.1 hb
    rw [e] at e'; cases e'
    exact ⟨e, f0, f1, f2, d⟩
theorem Inv.unpinned {pins pl : List (Addr × Obj)} {σ : St} {H : Hp} {s : Shared} (I : Inv X (pins ++ pl) σ H s) : Inv X pins σ H s := I.pins_of fun p hp => I.pin p (List.mem_append_right _ (List.mem_append_left _ hp))
theorem ps_for {iter : Expr} {body : List Stmt} {wi : TI} {g : TG} {tb : TS} {pos : Pos} (hp : PassesOwn (model X.prog X.w) X.A X.env X.xe) (hc : X.calm = true) (hi : PI X tg iter wi) (hg : PG X tg g) (hb : PSs X body tb)
    (hs : ∀ x, foldedSetIterable iter X.env x = pure x := by intro _; rfl) : PS X (.For tg iter body [] pos) (tFor wi g tb) := by
  intro pins s σ H D I h
  refine wpAny_For (thn (hi pins s σ H _ I h) fun v s1 h1 => thn h1 fun itv s2 h2 => ?_) hs
  obtain ⟨it, fp, tn, J, H2, e, I2, T, st2, f2, W, ⟨m0, w0⟩, turn⟩ := h2
  subst e
  -- what stays true of the iterator's objects through the loop
  have stat : ∀ {H' : Hp}, (∀ b ∈ fp, H' b = none) → ∀ b ∈ fp, FpOk X pins H' b := fun hn b hb => ⟨hn b hb, (f2 b hb).2⟩
  refine codeAny_forLoop_any (fun n s' => ∃ i σ' H', Inv X pins σ' H' s' ∧ tn i s'.heap ∧ (∀ b ∈ fp, H' b = none) ∧ W i n σ' H') ?_ m0 ⟨0, σ, H2, I2, st2, fun b hb => (f2 b hb).1, w0⟩
  rintro n s3 ⟨i, σ3, H3, I3, st3, fr3, w3⟩
  rcases turn i n σ3 H3 w3 with ⟨stop, qn⟩ | ⟨go, N, hN, step⟩
  · (refine wpAny_passesOwn hp (thn (T.done X rfl rfl rfl hc i pins s3 σ3 H3 X.xe I3 (stat fr3) st3 stop) ?_); rintro r s4 ⟨hr, I4⟩)
    subst hr
    exact wpAny_execs_nil ⟨σ3, H3, I4, qn⟩
  · (refine wpAny_passesOwn hp (thn (T.item X rfl rfl rfl hc i pins s3 σ3 H3 X.xe I3 (stat fr3) st3 go) ?_); rintro r s4 ⟨u, hr, h4⟩)
    subst hr
    (refine wpAny_passesOwn hp (thn h4 ?_); rintro _ s5 ⟨x, H5, I5, r5, y5, st5, fr5⟩)
    have I5' := I5.pinned (stat fr5) (T.obj _ _ st5)
    (refine wpAny_passesOwn hp (thn (hg _ s5 σ3 H5 x u _ I5' r5 (step x H5 y5)) ?_); rintro _ s6 ⟨σ6, H6, I6, q6⟩)
    refine wpAny_passesOwn hp (thn (hb _ s6 σ6 H6 _ I6 q6) fun f s7 q7 => ?_)
    have again : ∀ {σ7 : St} {H7 : Hp}, Inv X (pins ++ pinsAt fp s5.heap) σ7 H7 s7 → N σ7 H7 → ∃ m, m < n ∧ ∃ i σ' H', Inv X pins σ' H' s7 ∧ tn i s7.heap ∧ (∀ b ∈ fp, H' b = none) ∧ W i m σ' H' := fun {σ7 H7} I7 n7 => by
      obtain ⟨m', hm, w7⟩ := hN σ7 H7 n7
      refine ⟨m', hm, i + 1, σ7, H7, I7.unpinned, T.keep _ _ _ st5 fun b hb o e => (I7.pin (b, o) (List.mem_append_right _ (List.mem_append_right _ (mem_pinsAt hb e)))).1, fun b hb => ?_, w7⟩
      obtain ⟨o, e, d⟩ := T.obj _ _ st5 b hb
      exact (I7.pin (b, o) (List.mem_append_right _ (List.mem_append_right _ (mem_pinsAt hb e)))).2.1
    cases f with
    | next => obtain ⟨σ7, H7, I7, n7⟩ := q7; exact again I7 n7
    | cont => obtain ⟨σ7, H7, I7, n7⟩ := q7; exact again I7 n7
    | brk => obtain ⟨σ7, H7, I7, q7⟩ := q7; exact ⟨σ7, H7, I7.unpinned, q7⟩
    | ret v => obtain ⟨x7, σ7, H7, I7, r7, q7⟩ := q7; exact ⟨x7, σ7, H7, I7.unpinned, r7, q7⟩
end

/-! ### the forms one uses -/
end L2

namespace L2
open PySem PySem.Spec PyProof.Rows

noncomputable abbrev R2 := V → V → Hp → VK → Prop
/-- a two-place operation on values: f is binaryOp op, inplaceOp op or compareOp op -/
noncomputable def OpR (X : Cx) (f : Value → Value → Sem Value) (r : R2) : Prop :=
  ∀ (pins : List (Addr × Obj)) (s : Shared) (σ : St) (H : Hp) (x y : V) (v u : Value) (Q : VK), Inv X pins σ H s → RelV x v → RelV y u → r x y H Q →
    wpAny (model X.prog X.w) X.A (f v u) (EP X pins σ Q) X.xe s
/-- a one-place operation -/
noncomputable def UnR (X : Cx) (f : Value → Sem Value) (r : V → Hp → VK → Prop) : Prop :=
  ∀ (pins : List (Addr × Obj)) (s : Shared) (σ : St) (H : Hp) (x : V) (v : Value) (Q : VK), Inv X pins σ H s → RelV x v → r x H Q →
    wpAny (model X.prog X.w) X.A (f v) (EP X pins σ Q) X.xe s
/-- a call of a value that is known (a builtin, a type) with values -/
noncomputable def CallR (X : Cx) (f : Value) (r : List V → Hp → VK → Prop) : Prop :=
  ∀ (pins : List (Addr × Obj)) (s : Shared) (σ : St) (H : Hp) (xs : List V) (us : List Value) (Q : VK), Inv X pins σ H s → Vals xs us → r xs H Q →
    wpAny (model X.prog X.w) X.A (call f us) (EP X pins σ Q) X.xe s

noncomputable def tOp (r : R2) (ta tb : TE) : TE := fun σ H Q => ta σ H fun x H1 => tb σ H1 fun y H2 => r x y H2 Q
noncomputable def tUn (r : V → Hp → VK → Prop) (ta : TE) : TE := fun σ H Q => ta σ H fun x H1 => r x H1 Q
/-- ints in, under C, and a value out -/
noncomputable def rI (C : Int → Int → Prop) (g : Int → Int → V) : R2 := fun x y H Q => ∃ i j, x = .int i ∧ y = .int j ∧ C i j ∧ Q (g i j) H
noncomputable def rI0 (g : Int → Int → V) : R2 := fun x y H Q => ∃ i j, x = .int i ∧ y = .int j ∧ Q (g i j) H
noncomputable def rU (g : Int → V) : V → Hp → VK → Prop := fun x H Q => ∃ i, x = .int i ∧ Q (g i) H

section
variable {X : Cx} {a b c : Expr} {ta tb tc : TE} {pos : Pos}

theorem binT (ha : PE X a ta) (hb : PE X b tb) {pins : List (Addr × Obj)} {s : Shared} {σ : St} {H : Hp} {R : V → V → Hp → Prop} (I : Inv X pins σ H s)
    (h : ta σ H fun x H1 => tb σ H1 fun y H2 => R x y H2) {Q : Value → Shared → Prop} {f : Value → Value → Sem Value}
    (hf : ∀ v u s2 x y H2, Inv X pins σ H2 s2 → RelV x v → RelV y u → R x y H2 → wpAny (model X.prog X.w) X.A (f v u) Q X.xe s2) :
    wpAny (model X.prog X.w) X.A (eval a X.env) (fun v s₁ => wpAny (model X.prog X.w) X.A (eval b X.env) (fun u s₂ => wpAny (model X.prog X.w) X.A (f v u) Q X.xe s₂) X.xe s₁) X.xe s := by
  (refine thn (ha pins s σ H _ I h) ?_; rintro v s1 ⟨x, H1, I1, r1, q1⟩)
  (refine thn (hb pins s1 σ H1 _ I1 q1) ?_; rintro u s2 ⟨y, H2, I2, r2, q2⟩)
  exact hf v u s2 x y H2 I2 r1 r2 q2

theorem pe_op {op : Operator} {r : R2} (ho : OpR X (binaryOp op) r) (ha : PE X a ta) (hb : PE X b tb) : PE X (.BinOp a op b pos) (tOp r ta tb) := by
  intro pins s σ H Q I h
  exact wpAny_BinOp (binT ha hb I h fun v u s2 x y H2 I2 rx ry q => ho pins s2 σ H2 x y v u Q I2 rx ry q)
theorem pe_un {op : UnaryOp} {r : V → Hp → VK → Prop} (ho : UnR X (unaryOp op) r) (ha : PE X a ta) : PE X (.UnaryOp op a pos) (tUn r ta) := by
  intro pins s σ H Q I h
  (refine UnaryOp_ (thn (ha pins s σ H _ I h) ?_); rintro v s1 ⟨x, H1, I1, r1, q1⟩; exact ho pins s1 σ H1 x v Q I1 r1 q1)

/-! ### ints -/
theorem opI {f : Value → Value → Sem Value} {C : Int → Int → Prop} {g : Int → Int → Int}
    (rule : ∀ (i j : Int) (t u : Tok) (s : Shared) (Q : Value → Shared → Prop) (E : Value → Shared → Prop), C i j → Q (.int (g i j) s.toks) { s with toks := s.toks + 1 } → wpAny (model X.prog X.w) X.A (f (.int i t) (.int j u)) Q E s) :
    OpR X f (rI C fun i j => .int (g i j)) := by
  intro pins s σ H x y v u Q I rx ry h
  obtain ⟨i, j, rfl, rfl, hc, q⟩ := h
  obtain ⟨t, rfl⟩ := rx
  obtain ⟨t', rfl⟩ := ry
  exact rule i j t t' s _ _ hc ⟨.int (g i j), H, I.tok _, ⟨_, rfl⟩, q⟩
theorem opI0 {f : Value → Value → Sem Value} {g : Int → Int → Int}
    (rule : ∀ (i j : Int) (t u : Tok) (s : Shared) (Q : Value → Shared → Prop) (E : Value → Shared → Prop), Q (.int (g i j) s.toks) { s with toks := s.toks + 1 } → wpAny (model X.prog X.w) X.A (f (.int i t) (.int j u)) Q E s) :
    OpR X f (rI0 fun i j => .int (g i j)) := by
  intro pins s σ H x y v u Q I rx ry h
  obtain ⟨i, j, rfl, rfl, q⟩ := h
  obtain ⟨t, rfl⟩ := rx
  obtain ⟨t', rfl⟩ := ry
  exact rule i j t t' s _ _ ⟨.int (g i j), H, I.tok _, ⟨_, rfl⟩, q⟩
theorem opB0 {f : Value → Value → Sem Value} {g : Int → Int → Bool}
    (rule : ∀ (i j : Int) (t u : Tok) (s : Shared) (Q : Value → Shared → Prop) (E : Value → Shared → Prop), Q (.bool (g i j)) s → wpAny (model X.prog X.w) X.A (f (.int i t) (.int j u)) Q E s) :
    OpR X f (rI0 fun i j => .bl (g i j)) := by
  intro pins s σ H x y v u Q I rx ry h
  obtain ⟨i, j, rfl, rfl, q⟩ := h
  obtain ⟨t, rfl⟩ := rx
  obtain ⟨t', rfl⟩ := ry
  exact rule i j t t' s _ _ ⟨.bl (g i j), H, I, rfl, q⟩

noncomputable def CDiv (i j : Int) : Prop := 0 < j ∧ j < 1073741824
noncomputable def CPow (i j : Int) : Prop := 0 ≤ j ∧ j ≤ 1000000 ∧ i.natAbs < 2 ^ 64
noncomputable def CMul (i j : Int) : Prop := (-(2 ^ 64) < i ∧ i < 2 ^ 64) ∨ (-(2 ^ 64) < j ∧ j < 2 ^ 64)
theorem CMul.ok {i j : Int} (h : CMul i j) : IntMulOk i j := by
  rcases h with ⟨h1, h2⟩ | ⟨h1, h2⟩
  · exact .of_left (intBits_le_64 h1 h2)
  · exact .of_right (intBits_le_64 h1 h2)

theorem op_add : OpR X (binaryOp .Add) (rI0 fun i j => .int (i + j)) := opI0 fun _ _ _ _ _ _ _ q => add_int q
theorem op_sub : OpR X (binaryOp .Sub) (rI0 fun i j => .int (i - j)) := opI0 fun _ _ _ _ _ _ _ q => sub_int q
theorem op_mul : OpR X (binaryOp .Mult) (rI CMul fun i j => .int (i * j)) := opI fun _ _ _ _ _ _ _ hc q => mul_int q hc.ok
/-- % by a positive divisor of any size -/
theorem op_mod : OpR X (binaryOp .Mod) (rI (fun _ j => 0 < j) fun i j => .int (i % j)) := opI fun i j _ _ _ _ _ hc q => by
  have h1 : (0 : Int) < j := hc
  exact mod_int' (by omega) (by rw [Int.fmod_eq_emod_of_nonneg i (by omega)]; exact q)
theorem op_pow : OpR X (binaryOp .Pow) (rI CPow fun i j => .int (i ^ j.toNat)) := opI fun _ _ _ _ _ _ _ hc q => pow_int_small hc.1 hc.2.1 hc.2.2 q
theorem op_shl : OpR X (binaryOp .LShift) (rI CPow fun i j => .int (i * 2 ^ j.toNat)) := opI fun _ _ _ _ _ _ _ hc q => lshift_int_small hc.1 hc.2.1 hc.2.2 q

theorem iop_add : OpR X (inplaceOp .Add) (rI0 fun i j => .int (i + j)) := opI0 fun _ _ _ _ _ _ _ q => iadd_int q

theorem unI {f : Value → Sem Value} {g : Int → Int}
    (rule : ∀ (i : Int) (t : Tok) (s : Shared) (Q : Value → Shared → Prop) (E : Value → Shared → Prop), Q (.int (g i) s.toks) { s with toks := s.toks + 1 } → wpAny (model X.prog X.w) X.A (f (.int i t)) Q E s) :
    UnR X f (rU fun i => .int (g i)) := by
  intro pins s σ H x v Q I rx h
  obtain ⟨i, rfl, q⟩ := h
  obtain ⟨t, rfl⟩ := rx
  exact rule i t s _ _ ⟨.int (g i), H, I.tok _, ⟨_, rfl⟩, q⟩
theorem un_neg : UnR X (unaryOp .USub) (rU fun i => .int (-i)) := unI fun _ _ _ _ _ q => neg_int q

/-! ### bools among ints: n += (a < b) -/
end

/-! ### comparisons -/
/-- the scalars that == tells apart as data does -/
noncomputable def scal : V → V → Bool
  | .non, .non => true | .non, .int _ => true | .int _, .non => true | .non, .bl _ => true | .bl _, .non => true | .non, .str _ => true | .str _, .non => true
  | .int _, .int _ => true | .bl _, .bl _ => true | .str _, .str _ => true | .byt _, .byt _ => true
  | .int _, .str _ => true | .str _, .int _ => true | .bl _, .str _ => true | .str _, .bl _ => true
  | _, _ => false
noncomputable def rEq : R2 := fun x y H Q => scal x y = true ∧ Q (.bl (decide (x = y))) H
noncomputable def rNe : R2 := fun x y H Q => scal x y = true ∧ Q (.bl (!decide (x = y))) H

theorem dec_int {i j : Int} : decide (V.int i = V.int j) = (i == j) := by
  rw [Bool.eq_iff_iff]
  simp
theorem dec_bl {i j : Bool} : decide (V.bl i = V.bl j) = (i == j) := by
  rw [Bool.eq_iff_iff]
  simp
theorem dec_str {i j : Str} : decide (V.str i = V.str j) = (i == j) := by
  rw [Bool.eq_iff_iff]
  simp
theorem dec_byt {i j : Array UInt8} : decide (V.byt i = V.byt j) = (i.toList == j.toList) := by
  rw [Bool.eq_iff_iff]
  cases i
  cases j
  simp

section
variable {X : Cx} {a b c : Expr} {ta tb tc : TE} {pos : Pos}
theorem fin_bl {pins : List (Addr × Obj)} {σ : St} {H : Hp} {s : Shared} {Q : VK} {k k' : Bool} (I : Inv X pins σ H s) (q : Q (.bl k) H) (e : k = k') : EP X pins σ Q (.bool k') s := by
  subst e
  exact ⟨.bl k, H, I, rfl, q⟩
theorem op_eq : OpR X (compareOp .Eq) rEq := by
  intro pins s σ H x y v u Q I rx ry h
  obtain ⟨hs, q⟩ := h
  cases x with
  | non =>
    cases rx
    cases y with
    | non => cases ry; exact PySem.EqNone.eq_none_none (fin_bl I q (by simp))
    | bl j => cases ry; exact PySem.EqNone.eq_none_bool (fin_bl I q (by simp))
    | int j => obtain ⟨t', rfl⟩ := ry; exact PySem.EqNone.eq_none_int (fin_bl I q (by simp))
    | str j => obtain ⟨t', rfl⟩ := ry; exact PySem.EqNone.eq_none_str (fin_bl I q (by simp))
    | _ => exact absurd (show false = true from hs) Bool.false_ne_true
  | bl i =>
    cases rx
    cases y with
    | non => cases ry; exact PySem.EqNone.eq_bool_none (fin_bl I q (by simp))
    | bl j => cases ry; exact eq_bool (fin_bl I q dec_bl)
    | str j => obtain ⟨t', rfl⟩ := ry; exact PySem.EqMixed.eq_bool_str (fin_bl I q (by simp))
    | _ => exact absurd (show false = true from hs) Bool.false_ne_true
  | int i =>
    obtain ⟨t, rfl⟩ := rx
    cases y with
    | non => cases ry; exact PySem.EqNone.eq_int_none (fin_bl I q (by simp))
    | int j => obtain ⟨t', rfl⟩ := ry; exact eq_int (fin_bl I q dec_int)
    | str j => obtain ⟨t', rfl⟩ := ry; exact PySem.EqMixed.eq_int_str (fin_bl I q (by simp))
    | _ => exact absurd (show false = true from hs) Bool.false_ne_true
  | str i =>
    obtain ⟨t, rfl⟩ := rx
    cases y with
    | non => cases ry; exact PySem.EqNone.eq_str_none (fin_bl I q (by simp))
    | bl j => cases ry; exact PySem.EqMixed.eq_str_bool (fin_bl I q (by simp))
    | int j => obtain ⟨t', rfl⟩ := ry; exact PySem.EqMixed.eq_str_int (fin_bl I q (by simp))
    | str j => obtain ⟨t', rfl⟩ := ry; exact eq_str (fin_bl I q dec_str)
    | _ => exact absurd (show false = true from hs) Bool.false_ne_true
  | byt i =>
    obtain ⟨t, rfl⟩ := rx
    cases y with
    | byt j => obtain ⟨t', rfl⟩ := ry; exact PySem.W.eq_bytes (fin_bl I q dec_byt)
    | _ => exact absurd (show false = true from hs) Bool.false_ne_true
  | _ => cases y <;> exact absurd (show false = true from hs) Bool.false_ne_true
theorem op_ne : OpR X (compareOp .NotEq) rNe := by
  intro pins s σ H x y v u Q I rx ry h
  obtain ⟨hs, q⟩ := h
  cases x with
  | non =>
    cases rx
    cases y with
    | non => cases ry; exact PySem.EqNone.ne_none_none (fin_bl I q (by simp))
    | bl j => cases ry; exact PySem.EqNone.ne_none_bool (fin_bl I q (by simp))
    | int j => obtain ⟨t', rfl⟩ := ry; exact PySem.EqNone.ne_none_int (fin_bl I q (by simp))
    | str j => obtain ⟨t', rfl⟩ := ry; exact PySem.EqNone.ne_none_str (fin_bl I q (by simp))
    | _ => exact absurd (show false = true from hs) Bool.false_ne_true
  | bl i =>
    cases rx
    cases y with
    | non => cases ry; exact PySem.EqNone.ne_bool_none (fin_bl I q (by simp))
    | bl j => cases ry; exact ne_bool (fin_bl I q (congrArg not dec_bl))
    | str j => obtain ⟨t', rfl⟩ := ry; exact PySem.EqMixed.ne_bool_str (fin_bl I q (by simp))
    | _ => exact absurd (show false = true from hs) Bool.false_ne_true
  | int i =>
    obtain ⟨t, rfl⟩ := rx
    cases y with
    | non => cases ry; exact PySem.EqNone.ne_int_none (fin_bl I q (by simp))
    | int j => obtain ⟨t', rfl⟩ := ry; exact ne_int (fin_bl I q (congrArg not dec_int))
    | str j => obtain ⟨t', rfl⟩ := ry; exact PySem.EqMixed.ne_int_str (fin_bl I q (by simp))
    | _ => exact absurd (show false = true from hs) Bool.false_ne_true
  | str i =>
    obtain ⟨t, rfl⟩ := rx
    cases y with
    | non => cases ry; exact PySem.EqNone.ne_str_none (fin_bl I q (by simp))
    | bl j => cases ry; exact PySem.EqMixed.ne_str_bool (fin_bl I q (by simp))
    | int j => obtain ⟨t', rfl⟩ := ry; exact PySem.EqMixed.ne_str_int (fin_bl I q (by simp))
    | str j => obtain ⟨t', rfl⟩ := ry; exact ne_str (fin_bl I q (congrArg not dec_str))
    | _ => exact absurd (show false = true from hs) Bool.false_ne_true
  | byt i =>
    obtain ⟨t, rfl⟩ := rx
    cases y with
    | byt j => obtain ⟨t', rfl⟩ := ry; exact PySem.W.ne_bytes (fin_bl I q (congrArg not dec_byt))
    | _ => exact absurd (show false = true from hs) Bool.false_ne_true
  | _ => cases y <;> exact absurd (show false = true from hs) Bool.false_ne_true

theorem op_lt : OpR X (compareOp .Lt) (rI0 fun i j => .bl (decide (i < j))) := opB0 fun _ _ _ _ _ _ _ q => lt_int q
theorem op_le : OpR X (compareOp .LtE) (rI0 fun i j => .bl (decide (i ≤ j))) := opB0 fun _ _ _ _ _ _ _ q => le_int q
theorem op_gt : OpR X (compareOp .Gt) (rI0 fun i j => .bl (decide (j < i))) := opB0 fun _ _ _ _ _ _ _ q => gt_int q
theorem op_ge : OpR X (compareOp .GtE) (rI0 fun i j => .bl (decide (j ≤ i))) := opB0 fun _ _ _ _ _ _ _ q => ge_int q
theorem op_lt_str : OpR X (compareOp .Lt) (fun x y H Q => ∃ i j, x = .str i ∧ y = .str j ∧ Q (.bl (decide (i.cps.toList < j.cps.toList))) H) := by
  intro pins s σ H x y v u Q I rx ry h
  obtain ⟨i, j, rfl, rfl, q⟩ := h
  obtain ⟨t, rfl⟩ := rx
  obtain ⟨t', rfl⟩ := ry
  exact lt_str (fin_bl I q rfl)
/-- the one string within the other -/
theorem op_in_str : OpR X (compareOp .In) (fun x y H Q => ∃ i j, x = .str i ∧ y = .str j ∧ Q (.bl (!(Builtin.Str.occurrences j i 0 j.length 1).isEmpty)) H) := by
  intro pins s σ H x y v u Q I rx ry h
  obtain ⟨i, j, rfl, rfl, q⟩ := h
  obtain ⟨t, rfl⟩ := rx
  obtain ⟨t', rfl⟩ := ry
  exact in_str (fin_bl I q rfl)

theorem op_notN : OpR X (compareOp .IsNot) (fun x y H Q => y = .non ∧ Q (.bl (!decide (x = .non))) H) := by
  intro pins s σ H x y v u Q I rx ry h
  obtain ⟨rfl, q⟩ := h
  cases ry
  refine isnot_none_gen (fin_bl I q ?_)
  cases x <;> first
    | (cases rx; rfl)
    | (obtain ⟨t, rfl⟩ := rx; rfl)


/-- two rules for one operation: by cases -/
theorem OpR.or {f : Value → Value → Sem Value} {r r' : R2} (h : OpR X f r) (h' : OpR X f r') : OpR X f (fun x y H Q => r x y H Q ∨ r' x y H Q) := by
  intro pins s σ H x y v u Q I rx ry q
  rcases q with q | q
  · exact h pins s σ H x y v u Q I rx ry q
  · exact h' pins s σ H x y v u Q I rx ry q

theorem nomark (b : Expr) {op : CmpOp} (h : op ≠ .In := by decide) (h2 : op ≠ .NotIn := by decide) : behindInMarks op b = false := by
  have e1 : (op == CmpOp.In) = false := by cases op <;> first | rfl | exact absurd rfl h
  have e2 : (op == CmpOp.NotIn) = false := by cases op <;> first | rfl | exact absurd rfl h2
  cases b <;> simp [behindInMarks, e1, e2]
/-- a comparison as a value; hm: nomark b, or (for in, not in) by with_unfolding_all rfl -/
theorem pe_cmpR {op : CmpOp} {r : R2} (ho : OpR X (compareOp op) r) (ha : PE X a ta) (hb : PE X b tb) (hm : behindInMarks op b = false) : PE X (.Compare a [op] [b] pos) (tOp r ta tb) := by
  intro pins s σ H Q I h
  exact wpAny_Compare1 (binT ha hb I h fun v u s2 x y H2 I2 rx ry q => ho pins s2 σ H2 x y v u Q I2 rx ry q) hm
/-- a reading of a value as a test -/
noncomputable def tTest (t : TE) : TT := fun σ H Q => t σ H fun x H' => ∃ k, x = .bl k ∧ Q k H'
theorem pt_cmpR {op : CmpOp} {r : R2} (ho : OpR X (compareOp op) r) (ha : PE X a ta) (hb : PE X b tb) (hm : behindInMarks op b = false) : PT X (.Compare a [op] [b] pos) (tTest (tOp r ta tb)) := by
  intro pins s σ H Q I h
  refine wpAny_isTrue_Compare1 (thn (ha pins s σ H _ I h) fun v s1 ⟨x, H1, I1, r1, q1⟩ => thn (hb pins s1 σ H1 _ I1 q1) fun u s2 ⟨y, H2, I2, r2, q2⟩ =>
    thn (ho pins s2 σ H2 x y v u _ I2 r1 r2 q2) fun c s3 ⟨z, H3, I3, r3, k, e, q3⟩ => ?_) hm
  subst e
  cases r3
  exact wpAny_truthy_bool ⟨H3, I3, q3⟩
/-- a op1 b op2 c -/
noncomputable def tChain (r r' : R2) (ta tb tc : TE) : TE := fun σ H Q => ta σ H fun x H1 => tb σ H1 fun y H2 => r x y H2 fun z H3 => ∃ k, z = .bl k ∧
  (if k = true then tc σ H3 fun w' H4 => r' y w' H4 Q else Q (.bl false) H3)
theorem pe_chain {op op' : CmpOp} {r r' : R2} (ho : OpR X (compareOp op) r) (ho' : OpR X (compareOp op') r') (ha : PE X a ta) (hb : PE X b tb) (hc : PE X c tc)
    (hm : lastMarks [op, op'] [b, c] = false := by with_unfolding_all rfl) : PE X (.Compare a [op, op'] [b, c] pos) (tChain r r' ta tb tc) := by
  intro pins s σ H Q I h
  refine Compare_chain (thn (ha pins s σ H _ I h) fun v s1 ⟨x, H1, I1, r1, q1⟩ => chain_link (thn (hb pins s1 σ H1 _ I1 q1) fun u s2 ⟨y, H2, I2, r2, q2⟩ =>
    thn (ho pins s2 σ H2 x y v u _ I2 r1 r2 q2) fun d s3 ⟨z, H3, I3, r3, k, e, q3⟩ => ?_)) hm
  subst e
  cases r3
  refine wpAny_truthy_bool ?_
  cases k with
  | false => exact ite_ff ⟨.bl false, H3, I3, rfl, q3⟩
  | true => exact ite_tt (chain_last (thn (hc pins s3 σ H3 _ I3 q3) fun w' s4 ⟨z', H4, I4, r4, q4⟩ => ho' pins s4 σ H4 y z' u w' Q I4 r2 r4 q4))
theorem pt_chain {op op' : CmpOp} {r r' : R2} (ho : OpR X (compareOp op) r) (ho' : OpR X (compareOp op') r') (ha : PE X a ta) (hb : PE X b tb) (hc : PE X c tc)
    (hm : lastMarks [op, op'] [b, c] = false := by with_unfolding_all rfl) : PT X (.Compare a [op, op'] [b, c] pos) (tTest (tChain r r' ta tb tc)) := by
  intro pins s σ H Q I h
  refine isTrue_chain (thn (ha pins s σ H _ I h) fun v s1 ⟨x, H1, I1, r1, q1⟩ => test_link (thn (hb pins s1 σ H1 _ I1 q1) fun u s2 ⟨y, H2, I2, r2, q2⟩ =>
    thn (ho pins s2 σ H2 x y v u _ I2 r1 r2 q2) fun d s3 ⟨z, H3, I3, r3, k, e, q3⟩ => ?_)) hm
  subst e
  cases r3
  refine wpAny_truthy_bool ?_
  cases k with
  | false =>
    obtain ⟨k', e', q'⟩ := q3
    cases e'
    exact ite_ff ⟨H3, I3, q'⟩
  | true =>
    (refine ite_tt (test_last (thn (hc pins s3 σ H3 _ I3 q3) ?_)); rintro w' s4 ⟨z', H4, I4, r4, q4⟩; refine thn (ho' pins s4 σ H4 y z' u w' _ I4 r2 r4 q4) ?_; rintro d' s5 ⟨z2, H5, I5, r5, k2, e2, q5⟩)
    subst e2
    cases r5
    exact wpAny_truthy_bool ⟨H5, I5, q5⟩

/-! ### truth -/
theorem line63 : (sizeLine : Nat) < 2 ^ 63 := by rw [sizeLine_eq]; decide

/-! ### strs and bytes -/
theorem op_add_str : OpR X (binaryOp .Add) (fun x y H Q => ∃ i j, x = .str i ∧ y = .str j ∧ i.length + j.length ≤ sizeLine ∧ Q (.str (i ++ j)) H) := by
  intro pins s σ H x y v u Q I rx ry h
  obtain ⟨i, j, rfl, rfl, hz, q⟩ := h
  obtain ⟨t, rfl⟩ := rx
  obtain ⟨t', rfl⟩ := ry
  exact add_str (fun t' tk => ⟨.str (i ++ j), H, I.tok _, ⟨_, rfl⟩, q⟩) hz


/-! ### scalar builtins, by CallR -/
theorem vals1 {x : V} {us : List Value} (r : Vals [x] us) : ∃ u, us = [u] ∧ RelV x u := by
  cases r with
  | cons r1 r2 => cases r2; exact ⟨_, rfl, r1⟩
theorem vals2 {x y : V} {us : List Value} (r : Vals [x, y] us) : ∃ u w', us = [u, w'] ∧ RelV x u ∧ RelV y w' := by
  cases r with
  | cons r1 r2 =>
    cases r2 with
    | cons r3 r4 => cases r4; exact ⟨_, _, rfl, r1, r3⟩
theorem call_abs : CallR X (.builtin "abs") (fun xs H Q => ∃ i, xs = [.int i] ∧ Q (.int (if i < 0 then -i else i)) H) := by
  intro pins s σ H xs us Q I r h
  obtain ⟨i, rfl, q⟩ := h
  obtain ⟨u, rfl, t, rfl⟩ := vals1 r
  exact call_abs_int fun u tk => ⟨.int (if i < 0 then -i else i), H, I.tok _, ⟨_, rfl⟩, q⟩
theorem call_max2 (hc : X.calm = true) : CallR X (.builtin "max") (fun xs H Q => ∃ i j, xs = [.int i, .int j] ∧ Q (.int (if j > i then j else i)) H) := by
  intro pins s σ H xs us Q I r h
  obtain ⟨i, j, rfl, q⟩ := h
  obtain ⟨u, w', rfl, ⟨t, rfl⟩, ⟨t', rfl⟩⟩ := vals2 r
  refine max_two_ints (I.ok.hd hc) fun h' tk k => ⟨_, H, I.kept k, ?_, q⟩
  by_cases hj : j > i
  · rw [if_pos hj, if_pos hj]; exact ⟨_, rfl⟩
  · rw [if_neg hj, if_neg hj]; exact ⟨_, rfl⟩
theorem call_int1 : CallR X (.type "int") (fun xs H Q => (∃ i, xs = [.int i] ∧ Q (.int i) H) ∨ ∃ k, xs = [.bl k] ∧ Q (.int (if k then 1 else 0)) H) := by
  intro pins s σ H xs us Q I r h
  rcases h with ⟨i, rfl, q⟩ | ⟨k, rfl, q⟩
  · obtain ⟨u, rfl, t, rfl⟩ := vals1 r
    exact call_int_int ⟨.int i, H, I, ⟨_, rfl⟩, q⟩
  · obtain ⟨u, rfl, r1⟩ := vals1 r
    cases r1
    exact call_int_bool ⟨.int (if k then 1 else 0), H, I.tok _, ⟨_, rfl⟩, q⟩
end
end L2

namespace L2
open PySem PySem.Spec PyProof.Rows

/-! ### an instance, its attributes a map -/
structure ObjM (h : Heap) (x dx C : Addr) (mA : Str → Option Value) : Prop where
  obj : h.get? x = some (PySem.W.instObj C dx)
  ns : h.Ns1 dx mA
  ne : dx ≠ x

theorem lookIn_ns {h : Heap} {dx : Addr} {mA : Str → Option Value} (n : h.Ns1 dx mA) : ∃ od, h.get? dx = some od ∧ ∀ name, PySem.W.lookIn name od = some (mA name) := by
  obtain ⟨o, es, ep, ho, hd, hk, _, hm⟩ := n
  refine ⟨o, ho, fun name => ?_⟩
  have e := hm name
  unfold nsFind findBy at e
  rw [← Array.find?_toList] at e
  unfold PySem.W.lookIn
  rw [hd]
  dsimp only
  split
  · rename_i y q
    rw [q] at e
    exact congrArg some e
  · rename_i q
    rw [q] at e
    have a : es.toList.any (·.refKey) = false := by
      rw [List.any_eq_false]
      intro y hy
      obtain ⟨z, t, hkey⟩ := hk y (Array.mem_toList_iff.mp hy)
      simp [DictEntry.refKey, hkey]
    have a' : ¬ es.toList.any (·.refKey) = true := by rw [a]; exact Bool.false_ne_true
    rw [if_neg a']
    exact congrArg some e

theorem ObjM.look {h : Heap} {x dx C : Addr} {mA : Str → Option Value} (I : ObjM h x dx C mA) : ∃ od, PySem.W.InstAt h x (PySem.W.instObj C dx) C (some od) ∧ ∀ name, PySem.W.lookIn name od = some (mA name) :=
  let ⟨od, ho, hl⟩ := lookIn_ns I.ns
  ⟨od, ⟨I.obj, rfl, rfl, ho⟩, hl⟩

section
variable {prog : Program} {w : World} {A : Around} {E : Value → Shared → Prop} {s : Shared} {K : PySem.W.Frag} {x dx C f : Addr} {mA : Str → Option Value} {name : Str} {v : Value}



theorem get_meth {pl : Sem Bool} {Q : Value × List Value → Shared → Prop} (X : K.In s.heap) (I : ObjM s.heap x dx C mA) (hg : PySem.W.plainGet K C name = true)
    (hf : PySem.W.findIn K (.ref C) name = some (some (.ref f))) (ht : PySem.W.isFn K (.ref f) = true) (hv : mA name = none) (h : Q (.ref f, [.ref x]) s) :
    wpAny (model prog w) A (getMethod (.ref x) name pl) Q E s := by
  obtain ⟨od, J, hl⟩ := I.look
  exact PySem.W.method_fn X J (PySem.W.plainGet_of hg).1 (PySem.W.plainGet_of hg).2 hf (beq_iff_eq.mp ht) (by show (PySem.W.lookIn name od).map (·.isSome) = some false; rw [hl, hv]; rfl) h


end

/-! ### the attributes as a list of pairs -/

theorem RelO.none_of {o : Option Value} (r : RelO none o) : o = none := by
  cases o with
  | none => rfl
  | some u => exact (show False from r).elim

section
variable {P : Program} {w : World} {H H' : Hp} {h h' : Heap} {a C dx : Addr} {fs fs' : List (Str × V)}
theorem ins_get (hok : HOk P w H h) (e : H a = some (.ins C dx fs)) : ∃ mA, ObjM h a dx C mA ∧ (∀ f, RelO (fs.lookup f) (mA f)) ∧ PySem.Within mA (fs.map (·.1)) ∧ fs.length ≤ 1000 ∧ H dx = some (.own a) := by
  obtain ⟨d, z, ne, ob, mA, n, r, q⟩ := (show ObjOk P w H h a (.ins C dx fs) from hok a _ e)
  exact ⟨mA, ⟨ob, n, ne⟩, r, q, z, d⟩
end

/-! ### what of the text a class must have -/
structure Cls (K : PySem.W.Frag) (C : Addr) : Prop where
  pg : PySem.W.plainGet K C Str.empty = true
  hd : PySem.W.hasDictIn K C = true
  po : PySem.W.plainOver K C = true
  sa : PySem.W.findIn K (.ref C) "__setattr__" = some (some (.builtin "object.__setattr__"))
theorem Cls.get {K : PySem.W.Frag} {C : Addr} (c : Cls K C) (f : Str) : PySem.W.plainGet K C f = true := c.pg
/-- a constant of the class -/
structure Con (K : PySem.W.Frag) (C : Addr) (f : Str) (v : V) (u : Value) : Prop where
  at_ : PySem.W.findIn K (.ref C) f = some (some u)
  rel : RelV v u
  get : PySem.W.specialIn K u "__get__" = some none
  cp : PySem.W.copiedNames.contains f = false
/-- a method: a plain def of the class or of one above it -/
structure Meth (K : PySem.W.Frag) (C : Addr) (m : Str) (f : Addr) : Prop where
  at_ : PySem.W.findIn K (.ref C) m = some (some (.ref f))
  fn : PySem.W.isFn K (.ref f) = true
  kp : PySem.W.keepIn K (.ref f) = true

section
variable {X : Cx} {pins : List (Addr × Obj)} {σ : St} {H : Hp} {s : Shared} {a C dx : Addr} {fs : List (Str × V)} {f : Str} {v : V} {A : Around} {E : Value → Shared → Prop}



theorem getmeth_ok {m : Str} {g : Addr} {pl : Sem Bool} {Q : Value × List Value → Shared → Prop} (I : Inv X pins σ H s) (e : H a = some (.ins C dx fs)) (c : Cls X.K C) (k : Meth X.K C m g) (l : fs.lookup m = none)
    (h : Q (.ref g, [.ref a]) s) : wpAny (model X.prog X.w) A (getMethod (.ref a) m pl) Q E s := by
  obtain ⟨mA, O, r, _, _, _⟩ := ins_get I.hok e
  have hn : mA m = none := RelO.none_of (by rw [← l]; exact r m)
  exact get_meth I.kIn O (c.get m) k.at_ k.fn hn h


/-- a new instance, tracked, without attributes -/
theorem Inv.made (I : Inv X pins σ H s) : Inv X pins σ (upd (upd H s.heap.objs.size (.own (s.heap.objs.size + 1))) (s.heap.objs.size + 1) (.ins C s.heap.objs.size []))
    { s with heap := (s.heap.push PySem.W.emptyDict).push (PySem.W.instObj C s.heap.objs.size) } := by
  have e1 : (s.heap.push PySem.W.emptyDict).get? s.heap.objs.size = some PySem.W.emptyDict := Heap.get?_push_size s.heap rfl
  have e2 : ((s.heap.push PySem.W.emptyDict).push (PySem.W.instObj C s.heap.objs.size)).get? (s.heap.objs.size + 1) = some (PySem.W.instObj C s.heap.objs.size) := by
    have := Heap.get?_push_size (s.heap.push PySem.W.emptyDict) (o := PySem.W.instObj C s.heap.objs.size) rfl
    rwa [Heap.size_push] at this
  have e3 : (s.heap.push PySem.W.emptyDict).Ns s.heap.objs.size (fun _ => none) := ⟨PySem.W.emptyDict, #[], _, e1, rfl, (fun e he => absurd he (by simp)), fun _ => rfl⟩
  have I1 := I.laid (a := s.heap.objs.size) (o := .own (s.heap.objs.size + 1)) (h' := s.heap.push PySem.W.emptyDict) (t' := s.toks) (fun b u q => Heap.get?_push_of_some _ q) (Nat.le_refl _) ⟨_, e1⟩
  refine I1.laid (a := s.heap.objs.size + 1) (o := .ins C s.heap.objs.size []) (t' := s.toks) (fun b u q => Heap.get?_push_of_some _ q) (Nat.le_of_eq (Heap.size_push _ _)) ?_
  have ne : s.heap.objs.size ≠ s.heap.objs.size + 1 := Nat.ne_of_lt (Nat.lt_succ_self _)
  refine ⟨by rw [upd_ne ne, upd_same], Nat.zero_le _, ne, e2, fun _ => none, (Heap.Ns1.of_empty e3).at fun o q => Heap.get?_push_of_some _ q, fun _ => True.intro, fun y hy => absurd rfl hy⟩

end

/-! ### readings and rules -/

section
variable {X : Cx} {o e value : Expr} {f : Str} {pos pos' tpos : Pos} {ta tv : TE}

end

/-! ### isinstance -/
section
variable {X : Cx} {pins : List (Addr × Obj)} {σ : St} {H : Hp} {s : Shared} {A : Around} {E : Value → Shared → Prop} {Q : Value → Shared → Prop} {c : Value} {b : Bool}
/-- the type of a value, as the fragment's deciders take it; for an instance its class -/
inductive TyOf (K : PySem.W.Frag) (H : Hp) : V → Value → Prop where
  | non : TyOf K H .non (.type "NoneType")
  | bl (x : Bool) : TyOf K H (.bl x) (.type "bool")
  | int (i : Int) : TyOf K H (.int i) (.type "int")
  | str (x : Str) : TyOf K H (.str x) (.type "str")
  | flt (x : UInt64) : TyOf K H (.flt x) (.type "float")
  | lst {a : Addr} {xs : List V} (e : H a = some (.lst xs)) : TyOf K H (.ref a) (.type "list")
  | frz {a : Addr} {o : Obj} {xs : List V} (e : H a = some (.frz o (.lst xs))) : TyOf K H (.ref a) (.type "list")
  | tup {a : Addr} {xs : List V} (e : H a = some (.tup xs)) : TyOf K H (.ref a) (.type "tuple")
  | dK {a : Addr} {kvs : List (Key × V)} (e : H a = some (.dK kvs)) : TyOf K H (.ref a) (.type "dict")
  | dT {a : Addr} {kvs : List (List Key × V)} (e : H a = some (.dT kvs)) : TyOf K H (.ref a) (.type "dict")
  | ins {a C dx : Addr} {fs : List (Str × V)} (e : H a = some (.ins C dx fs)) (cl : Cls K C) (ha : PySem.W.findIn K (.ref C) "__class__" = some (some (.builtin "object.__class__")))
      (hn : PySem.W.specialIn K (.builtin "object.__class__") "__get__" = some (some (.builtin "getset_descriptor.__get__"))) (htk : PySem.W.takesIn K (.builtin "object.__class__") = some true)
      (hm : PySem.W.mroIn K C (.type "object") = some true) : TyOf K H (.ref a) (.ref C)
/-- isinstance(x, c) for one class c, a built-in or an own one: kitOne's answer -/
theorem isinst_ok {x : V} {u t : Value} (I : Inv X pins σ H s) (rx : RelV x u) (ty : TyOf X.K H x t) (e : PySem.W.kitOne X.K t c = some b) (h : ∀ tk, Q (.bool b) { s with toks := tk }) :
    wpAny (model X.prog X.w) A (call (.builtin "isinstance") [u, c]) Q E s := by
  cases ty with
  | non => cases (show u = Value.none from rx); exact PySem.W.kia_one PySem.W.kitx_none I.kIn True.intro e (fun z => nomatch z) h
  | bl y => cases (show u = Value.bool y from rx); exact PySem.W.kia_one PySem.W.kitx_bool I.kIn True.intro e (fun z => nomatch z) h
  | int i => obtain ⟨t, q⟩ := (show ∃ t, u = Value.int i t from rx); cases q; exact PySem.W.kia_one PySem.W.kitx_int I.kIn True.intro e (fun z => nomatch z) h
  | str y => obtain ⟨t, q⟩ := (show ∃ t, u = Value.str y t from rx); cases q; exact PySem.W.kia_one PySem.W.kitx_str I.kIn True.intro e (fun z => nomatch z) h
  | flt y => obtain ⟨t, q⟩ := (show ∃ t, u = Value.float y t from rx); cases q; exact PySem.W.kia_one PySem.W.kitx_float I.kIn True.intro e (fun z => nomatch z) h
  | @lst a xs ea =>
    cases (show u = Value.ref a from rx)
    obtain ⟨_, _, n, _, h1⟩ := (show ObjOk X.prog X.w H s.heap a (.lst xs) from I.hok a _ ea)
    exact PySem.W.kia_one PySem.W.kitx_list I.kIn ⟨_, h1, rfl⟩ e (fun z => nomatch z) h
  | @frz a ob xs ea =>
    cases (show u = Value.ref a from rx)
    obtain ⟨_, _, _, n, _, h1⟩ := (show ObjOk X.prog X.w H s.heap a (.frz ob (.lst xs)) from I.hok a _ ea)
    exact PySem.W.kia_one PySem.W.kitx_list I.kIn ⟨_, h1, rfl⟩ e (fun z => nomatch z) h
  | @tup a xs ea =>
    cases (show u = Value.ref a from rx)
    obtain ⟨_, _, _, p⟩ := (show ObjOk X.prog X.w H s.heap a (.tup xs) from I.hok a _ ea)
    obtain ⟨o, h1, h2, _⟩ := p
    exact PySem.W.kia_one PySem.W.kitx_tuple I.kIn ⟨o, h1, h2⟩ e (fun z => nomatch z) h
  | @dK a kvs ea =>
    cases (show u = Value.ref a from rx)
    obtain ⟨_, _, vs, _, p⟩ := (show ObjOk X.prog X.w H s.heap a (.dK kvs) from I.hok a _ ea)
    obtain ⟨o, es, ep, h1, h2, _⟩ := p
    exact PySem.W.kia_one PySem.W.kitx_dict I.kIn ⟨o, h1, h2.1⟩ e (fun z => nomatch z) h
  | @dT a kvs ea =>
    cases (show u = Value.ref a from rx)
    obtain ⟨_, _, xs, _, o, es, ep, h1, h2, _⟩ := (show ObjOk X.prog X.w H s.heap a (.dT kvs) from I.hok a _ ea)
    exact PySem.W.kia_one PySem.W.kitx_dict I.kIn ⟨o, h1, h2.1⟩ e (fun z => nomatch z) h
  | @ins a C dx fs ea cl ha hn htk hm =>
    cases (show u = Value.ref a from rx)
    obtain ⟨mA, O, _⟩ := ins_get I.hok ea
    obtain ⟨od, J, _⟩ := O.look
    exact PySem.W.kia_one (PySem.W.kitx_own (cl.get _) cl.hd ha hn htk hm) I.kIn J e (fun z => nomatch z) h
end
end L2

namespace L2
open PySem PySem.Spec PyProof.Rows

/-! ### room -/
structure Room (k : Nat) (A : Around) : Prop where
  hd : A.handled = none
  dp : A.depth + 3 * k + 5 < recursionLimit
  un : A.units + 16 * k + 200 < cLine
theorem Room.mono {j k : Nat} {A : Around} (r : Room k A) (h : j ≤ k) : Room j A := ⟨r.hd, by have := r.dp; omega, by have := r.un; omega⟩
theorem Room.deeper {k : Nat} {A : Around} (r : Room (k + 1) A) (env : Env) : Room k (A.deeper env) :=
  ⟨r.hd, by have := r.dp; show A.depth + 1 + 3 * k + 5 < _; omega, by have := r.un; show A.units + 3 + 16 * k + 200 < _; omega⟩
theorem Room.depth {k : Nat} {A : Around} (r : Room k A) : A.depth < recursionLimit := by have := r.dp; omega
theorem Room.units {k : Nat} {A : Around} (r : Room k A) : A.units + 64 < cLine := by have := r.un; omega

/-! ### argument lists and displays -/
noncomputable def tNil : TA := fun _ H Q => Q [] H
noncomputable def tCons (ta : TE) (tr : TA) : TA := fun σ H Q => ta σ H fun x H1 => tr σ H1 fun xs H2 => Q (x :: xs) H2
section
variable {X : Cx} {e : Expr} {es : List Expr} {te : TE} {t : TA} {pos : Pos}
theorem pa_nil : PA X [] tNil := fun _ _ _ _ H Q I h => Calls.spliced_nil ⟨[], H, I, .nil, h⟩
theorem pa_cons (ha : PE X e te) (hr : PA X es t) (hs : starEach (e :: es) X.env = (false, eval e X.env) :: starEach es X.env := by rfl) : PA X (e :: es) (tCons te t) := by
  intro pos pins s σ H Q I h
  rw [hs]
  show wpAny _ _ (spliced ((false, eval e X.env) :: backTo pos (starEach es X.env))) _ _ s
  (refine Calls.spliced_cons (thn (ha pins s σ H _ I h) ?_); rintro u s1 ⟨x, H1, I1, r1, q1⟩)
  (refine thn (hr pos pins s1 σ H1 _ I1 q1) ?_; rintro us s2 ⟨xs, H2, I2, r2, q2⟩; exact ⟨x :: xs, H2, I2, .cons r1 r2, q2⟩)

/-- a tuple, a list of written items -/
noncomputable def tTup (t : TA) : TE := fun σ H Q => t σ H fun xs H1 => xs.length ≤ sizeLine ∧ ∀ p, H1 p = none → Q (.ref p) (upd H1 p (.tup xs))
noncomputable def tLst (t : TA) : TE := fun σ H Q => t σ H fun xs H1 => xs.length ≤ sizeLine ∧ ∀ p, H1 p = none → Q (.ref p) (upd H1 p (.lst xs))
theorem pe_tup {x1} (h : PA X es t) : PE X (.Tuple es x1 pos) (tTup t) := by
  intro pins s σ H Q I hq
  refine wpAny_Tuple_spliced (thn (h pos pins s σ H _ I hq) fun us s1 ⟨xs, H1, I1, r, z, q⟩ => ⟨by rw [← r.length]; exact z, ?_⟩)
  have hf : H1 s1.heap.objs.size = none := I1.hok.fresh (Nat.le_refl _)
  refine ⟨.ref s1.heap.objs.size, upd H1 s1.heap.objs.size (.tup xs), I1.laid (t' := s1.toks) (fun b u e => Heap.get?_push_of_some _ e) (Nat.le_refl _) ?_, rfl, q _ hf⟩
  exact ⟨z, us, r, ⟨_, Heap.get?_push_size _ rfl, rfl, ⟨_, rfl⟩, rfl⟩⟩
theorem pe_lst (h : PA X es t) : PE X (.List es pos) (tLst t) := by
  intro pins s σ H Q I hq
  refine wpAny_List_spliced (thn (h pos pins s σ H _ I hq) fun us s1 ⟨xs, H1, I1, r, z, q⟩ => ⟨by rw [← r.length]; exact z, ?_⟩)
  have hf : H1 s1.heap.objs.size = none := I1.hok.fresh (Nat.le_refl _)
  refine ⟨.ref s1.heap.objs.size, upd H1 s1.heap.objs.size (.lst xs), I1.laid (t' := s1.toks) (fun b u e => Heap.get?_push_of_some _ e) (Nat.le_refl _) ?_, rfl, q _ hf⟩
  exact ⟨z, us, 0, r, Heap.get?_push_size _ rfl⟩
end

/-! ### what a def promises -/
/-- a def's promise: the bound arguments in the parameters' order, the heap, the wanted end, the wanted exception -/
noncomputable abbrev Sp := List V → Hp → VK → XK → Prop
/-- how an exception lies behind a call (file 08 gives it): the callers' frames, abstract heap and state ahead of the call, the wish, the exception, the state -/
noncomputable abbrev CXT := List Env → Hp → Shared → XK → Value → Shared → Prop

/-- the state at a call -/
structure Env0 (P : Program) (w : World) (K : PySem.W.Frag) (mg : Str → Option Value) (base : Heap) (A : Around) (outer : List Env) (s : Shared) (H : Hp) : Prop where
  frames : A.frames = some outer
  mod : Mod K mg base
  bs : ∀ b o, base.get? b = some o → s.heap.get? b = some o ∧ H b = none
  bsz : base.objs.size ≤ s.heap.objs.size
  funs : s.heap.FunFrames base outer
  frf : ∀ b ∈ frs outer, H b = none
  hok : HOk P w H s.heap
  bare : AllBare s.gens
/-- a call's end -/
noncomputable def CE (outer : List Env) (P : Program) (w : World) (H : Hp) (s : Shared) (Q : VK) (u : Value) (s' : Shared) : Prop :=
  ∃ v H', s'.os = s.os ∧ AllBare s'.gens ∧ Un (frs outer) [] H H' s.heap s'.heap ∧ HOk P w H' s'.heap ∧ RelV v u ∧ Q v H'
noncomputable def CR (CX : CXT) (outer : List Env) (P : Program) (w : World) (H : Hp) (s : Shared) (Q : VK) (E : XK) (r : Result) (s' : Shared) : Prop :=
  match r with
  | .ok (.ret u) => CE outer P w H s Q u s'
  | .ok _ => False
  | .error e => CX outer H s E e s'
structure FnOk (P : Program) (w : World) (K : PySem.W.Frag) (mg : Str → Option Value) (base : Heap) (CX : CXT) (k : Nat) (f : Addr) (fd : FuncData) (ps : List Str) (sp : Sp) : Prop where
  len : ∀ vs H Q E, sp vs H Q E → vs.length = ps.length
  run : ∀ (A : Around) (outer : List Env) (s : Shared) (H : Hp) (args : Args) (us : List Value) (vs : List V) (Q : VK) (E : XK), Room k A → Env0 P w K mg base A outer s H → BindsTo s fd args (ps.zip us) → Vals vs us → sp vs H Q E →
    codeAny (model P w) A (.call (.ref f) args) (CR CX outer P w H s Q E) s
theorem FnOk.mono {P : Program} {w : World} {K : PySem.W.Frag} {mg : Str → Option Value} {base : Heap} {CX : CXT} {j k : Nat} {f : Addr} {fd : FuncData} {ps : List Str} {sp : Sp} (F : FnOk P w K mg base CX j f fd ps sp) (h : j ≤ k) :
    FnOk P w K mg base CX k f fd ps sp := ⟨F.len, fun A outer s H args us vs Q E hr => F.run A outer s H args us vs Q E (hr.mono h)⟩


section
variable {X : Cx} {pins : List (Addr × Obj)} {σ : St} {H : Hp} {s s' : Shared}
/-- from a body: what a callee wants -/
theorem Inv.env0 (I : Inv X pins σ H s) : Env0 X.prog X.w X.K X.mg X.base X.A X.stack s H :=
  ⟨I.ok.frames, I.ok.mod, I.bs, Nat.le_trans I.ok.bsz I.sz, I.stack, I.stkFree, I.hok, I.bare⟩
/-- behind a call -/
theorem Inv.after {Q : VK} {u : Value} (I : Inv X pins σ H s) (h : CE X.stack X.prog X.w H s Q u s') : EP X pins σ Q u s' := by
  obtain ⟨v, H', os, bare, un, hok, r, q⟩ := h
  obtain ⟨hh, g, d, t, os'⟩ := s'
  obtain rfl : os' = s.os := os
  exact ⟨v, H', I.call (h' := hh) (g' := g) (d' := d) (t' := t) (ch := []) un hok bare (fun b z => absurd z (by simp)), r, q⟩
end

/-! ### calls -/
/-- f(..): the written arguments, then the defaults dvs; E: what is wanted of an exception -/
noncomputable def tCall (sp : Sp) (dvs : List V) (E : XK) (t : TA) : TE := fun σ H Q => t σ H fun vs H1 => sp (vs ++ dvs) H1 Q E
/-- o.m(..) of an instance of the class at C -/
noncomputable def tMeth (C : Addr) (m : Str) (sp : Sp) (dvs : List V) (E : XK) (ta : TE) (t : TA) : TE := fun σ H Q => ta σ H fun x H1 => ∃ a dx fs, x = .ref a ∧ H1 a = some (.ins C dx fs) ∧ fs.lookup m = none ∧
  t σ H1 fun vs H2 => sp (x :: (vs ++ dvs)) H2 Q E

/-- how the parameters are bound: us the positional arguments, kw the keywords' values by name, ds the defaults that fill up -/
noncomputable def Binds (K : PySem.W.Frag) (fd : FuncData) (ps : List Str) (ds : List Value) : Prop :=
  ∀ (s : Shared) (us : List Value), K.In s.heap → (us ++ ds).length = ps.length → BindsTo s fd ⟨us, []⟩ (ps.zip (us ++ ds))
/-- every parameter is given -/
theorem Binds.all {K : PySem.W.Frag} {fd : FuncData} {ps : List Str} (h : ∀ us : List Value, us.length = ps.length → bindArgs fd ⟨us, []⟩ = pure (ps.zip us)) : Binds K fd ps [] := fun s us _ hl => by
  rw [List.append_nil] at hl ⊢
  exact .of_eq (h us hl)

/-- an exception of a callee reaches what this body wants of exceptions -/
noncomputable def Passes (CX : CXT) (X : Cx) (E : XK) : Prop := ∀ (pins : List (Addr × Obj)) (σ : St) (H : Hp) (s : Shared) (e : Value) (s' : Shared), Inv X pins σ H s → CX X.stack H s E e s' → X.xe e s'

section
variable {X : Cx} {CX : CXT} {k : Nat} {f C : Addr} {fd : FuncData} {ps : List Str} {sp : Sp} {dvs : List V} {ds : List Value} {E : XK} {x m : Str} {p pos apos : Pos} {e o : Expr} {es : List Expr} {ta : TE} {t : TA}

/-- the callee runs -/
theorem run_fn {pins : List (Addr × Obj)} {σ : St} {H : Hp} {s : Shared} {Q : VK} {us : List Value} {vs : List V} (F : FnOk X.prog X.w X.K X.mg X.base CX k f fd ps sp) (hr : Room k X.A) (hb : Binds X.K fd ps ds) (hd : Vals dvs ds) (hx : Passes CX X E)
    (I : Inv X pins σ H s) (r : Vals vs us) (h : sp (vs ++ dvs) H Q E) : wpAny (model X.prog X.w) X.A (call (.ref f) us) (EP X pins σ Q) X.xe s := by
  have r2 : Vals (vs ++ dvs) (us ++ ds) := r.append hd
  have hl : (us ++ ds).length = ps.length := by rw [← r2.length]; exact F.len _ _ _ _ h
  refine wpAny_call (codeAny_mono (F.run X.A X.stack s H ⟨us, []⟩ (us ++ ds) (vs ++ dvs) Q E hr I.env0 (hb s us I.kIn hl) r2 h) fun r s' hq => ?_)
  cases r with
  | error e => exact hx pins σ H s e s' I hq
  | ok fl =>
    cases fl with
    | ret u => exact I.after hq
    | next => exact False.elim hq
    | brk => exact False.elim hq
    | cont => exact False.elim hq

theorem pe_call (F : FnOk X.prog X.w X.K X.mg X.base CX k f fd ps sp) (hr : Room k X.A) (hg : Gl X x) (hm : X.mg x = some (.ref f)) (hk : PySem.W.keepIn X.K (.ref f) = true) (hb : Binds X.K fd ps ds) (hd : Vals dvs ds) (hx : Passes CX X E)
    (ha : PA X (e :: es) t) (hdb : (x == ("__debug__" : Str)) = false := by decide) (he : starEach (e :: es) X.env = (false, eval e X.env) :: starEach es X.env := by rfl) (hpl : (backTo pos (starEach es X.env)).any (·.1) = false := by rfl) :
    PE X (.Call (.Name x p) (e :: es) [] pos) (tCall sp dvs E t) := by
  intro pins s σ H Q I h
  refine wpAny_Call_Name_kw (ld_glob I hg hm ?_ hdb)
  (refine PySem.W.callWith_K (h₀ := X.base) I.ok.mod.kin hk (thn (ha pos pins s σ H _ I h) ?_) he hpl; rintro us s1 ⟨vs, H1, I1, r, q⟩; refine ⟨I1.kIn, ?_⟩)
  exact run_fn F hr hb hd hx I1 r q

/-- o.m(e, ..) -/
theorem pe_meth {pl : Sem Bool} (he : PE X o ta) (c : Cls X.K C) (hm : Meth X.K C m f) (F : FnOk X.prog X.w X.K X.mg X.base CX k f fd ps sp) (hr : Room k X.A) (hb : Binds X.K fd ps ds) (hd : Vals dvs ds) (hx : Passes CX X E) (ha : PA X (e :: es) t)
    (hst : starEach (e :: es) X.env = (false, eval e X.env) :: starEach es X.env := by rfl) (hpl : (backTo pos (starEach es X.env)).any (·.1) = false := by rfl)
    (ht : eval (.Call (.Attribute o m apos) (e :: es) [] pos) X.env = (do
      let ov ← eval o X.env
      standAt apos.atName
      let (f, first) ← holding [ov] (getMethod ov m pl)
      callWith pos f first (backTo pos (starEach (e :: es) X.env)) (backToKw pos (keywordEach [] X.env))) := by rfl) :
    PE X (.Call (.Attribute o m apos) (e :: es) [] pos) (tMeth C m sp dvs E ta t) := by
  intro pins s σ H Q I h
  (refine PySem.W.methodCall_KW (pl := pl) (thn (he pins s σ H _ I h) ?_) ht; rintro u s1 ⟨x, H1, I1, rx, a, dx, fs, ex, ea, l, q⟩)
  subst ex
  obtain rfl : u = Value.ref a := rx
  refine getmeth_ok I1 ea c hm l ?_
  (refine PySem.W.callWith_K (first := [.ref a]) (h₀ := X.base) I.ok.mod.kin hm.kp (thn (ha pos pins s1 σ H1 _ I1 q) ?_) hst hpl; rintro us s2 ⟨vs, H2, I2, r, q2⟩; refine ⟨I2.kIn, ?_⟩)
  exact run_fn (us := .ref a :: us) (vs := .ref a :: vs) F hr hb hd hx I2 (.cons rfl r) q2

/-- what a class must have to be made -/
structure Mk (K : PySem.W.Frag) (C f : Addr) : Prop where
  makes : PySem.W.makesIn K C = true
  init : PySem.W.findIn K (.ref C) "__init__" = some (some (.ref f))
  fn : PySem.W.isFn K (.ref f) = true
  kp : PySem.W.keepIn K (.ref C) = true

end

/-! ### keywords -/
section
variable {X : Cx} {CX : CXT} {k : Nat} {f C : Addr} {fd : FuncData} {ps ks : List Str} {sp : Sp} {E : XK} {x m : Str} {p pos apos kpos : Pos} {e o : Expr} {es : List Expr} {kws : List Keyword} {te ta : TE} {t tk : TA} {nm : Option Str}

/-- how a call with keywords binds: g puts the positional values us and the keywords' values ws (names ks) in the parameters' order, defaults among them -/
structure KBinds (K : PySem.W.Frag) (fd : FuncData) (ps ks : List Str) (g : List Value → List Value → List Value) (gV : List V → List V → List V) : Prop where
  to : ∀ (s : Shared) (us ws : List Value), K.In s.heap → (g us ws).length = ps.length → BindsTo s fd ⟨us, ks.zip ws⟩ (ps.zip (g us ws))
  rel : ∀ {vs : List V} {us : List Value} {zs : List V} {ws : List Value}, Vals vs us → Vals zs ws → Vals (gV vs zs) (g us ws)
variable {g : List Value → List Value → List Value} {gV : List V → List V → List V}
end

/-! ### a def's body keeps its promise -/
/-- names: the parameters first -/
structure FnScope (N P : List Str) (sc : Scope) : Prop where
  kind : sc.kind = .function
  co : sc.isCoroutine = false
  gen : sc.isGenerator = false
  nd : N.Nodup
  pre : N.take P.length = P
  par : ∀ x ∈ P, sc.names.lookup x = some .local ∨ sc.names.lookup x = some .cell
  nofree : ∀ y ∈ sc.names, y.2 ≠ .free

theorem bindL_out {kindOf : Str → Option NameKind} {x : Str} : ∀ {binds : List (Str × Value)} {m : Str → Option Value}, (∀ v, (x, v) ∉ binds) → bindL kindOf binds m x = m x
  | [], _, _ => rfl
  | (n, v) :: r, m, h => by
    unfold bindL
    rw [bindL_out fun w hw => h w (List.mem_cons_of_mem _ hw)]
    split
    · have : x ≠ n := by rintro rfl; exact h v List.mem_cons_self
      simp [this]
    · rfl
theorem bindC_out {kindOf : Str → Option NameKind} {x : Str} : ∀ {binds : List (Str × Value)} {m : Str → Option Value}, (∀ v, (x, v) ∉ binds) → bindC kindOf binds m x = m x
  | [], _, _ => rfl
  | (n, v) :: r, m, h => by
    unfold bindC
    rw [bindC_out fun w hw => h w (List.mem_cons_of_mem _ hw)]
    split
    · rfl
    · have : x ≠ n := by rintro rfl; exact h v List.mem_cons_self
      simp [this]
theorem bindL_get {kindOf : Str → Option NameKind} {x : Str} {v : Value} : ∀ {P : List Str} {vs : List Value} {i : Nat} {m : Str → Option Value}, P.Nodup → P[i]? = some x → vs[i]? = some v → kindOf x = some .local →
    bindL kindOf (P.zip vs) m x = some v
  | [], _, _, _, _, h, _, _ => by simp at h
  | _ :: _, [], _, _, _, _, h, _ => by simp at h
  | p :: P, w :: vs, 0, m, nd, h1, h2, hk => by
    simp at h1 h2; subst h1; subst h2
    show bindL kindOf ((p, w) :: P.zip vs) m p = _
    unfold bindL
    rw [bindL_out fun v hv => (List.nodup_cons.mp nd).1 (List.of_mem_zip hv).1, if_pos hk]
    simp
  | p :: P, w :: vs, i + 1, m, nd, h1, h2, hk => by
    show bindL kindOf ((p, w) :: P.zip vs) m x = _
    unfold bindL
    exact bindL_get (i := i) (List.nodup_cons.mp nd).2 (by simpa using h1) (by simpa using h2) hk
theorem bindC_get {kindOf : Str → Option NameKind} {x : Str} {v : Value} : ∀ {P : List Str} {vs : List Value} {i : Nat} {m : Str → Option Value}, P.Nodup → P[i]? = some x → vs[i]? = some v → kindOf x ≠ some .local →
    bindC kindOf (P.zip vs) m x = some v
  | [], _, _, _, _, h, _, _ => by simp at h
  | _ :: _, [], _, _, _, _, h, _ => by simp at h
  | p :: P, w :: vs, 0, m, nd, h1, h2, hk => by
    simp at h1 h2; subst h1; subst h2
    show bindC kindOf ((p, w) :: P.zip vs) m p = _
    unfold bindC
    rw [bindC_out fun v hv => (List.nodup_cons.mp nd).1 (List.of_mem_zip hv).1, if_neg hk]
    simp
  | p :: P, w :: vs, i + 1, m, nd, h1, h2, hk => by
    show bindC kindOf ((p, w) :: P.zip vs) m x = _
    unfold bindC
    exact bindC_get (i := i) (List.nodup_cons.mp nd).2 (by simpa using h1) (by simpa using h2) hk

/-- the names' values at the entry -/
noncomputable def start (N : List Str) (vs : List V) : St := vs.map some ++ List.replicate (N.length - vs.length) none

/-- the context of a def's body, at its entry; an exception leaves the frame, then lies as CX says -/
noncomputable def cxOf (CX : CXT) (P : Program) (w : World) (K : PySem.W.Frag) (mg : Str → Option Value) (base : Heap) (N : List Str) (qual : Str) (scope : Scope) (f : Addr) (cd : Value) (A : Around) (outer : List Env) (s : Shared) (H : Hp) (E : XK) : Cx where
  prog := P
  w := w
  K := K
  mg := mg
  base := base
  A := A.deeper (envOfC qual scope s.heap.objs.size f cd)
  N := N
  s₀ := s
  H₀ := H
  env := envOfC qual scope s.heap.objs.size f cd
  outer := outer
  stack := envOfC qual scope s.heap.objs.size f cd :: outer
  ex := []
  calm := true
  fn := fun _ => true
  pn := []
  xe := fun e s' => wpAny (model P w) (A.deeper (envOfC qual scope s.heap.objs.size f cd)) (leaving (envOfC qual scope s.heap.objs.size f cd) e) (fun _ s'' => CX outer H s E e s'') (fun e' s'' => CX outer H s E e' s'') s'

theorem cell_has {sc : Scope} {n : Nat} {x : Str} (h : sc.names.lookup x = some .cell) : ∃ c, (cellsFrom n sc.names []).lookup x = some c := by
  have q := PySem.W.cellsFrom_some sc.names n [] (.inl h)
  exact Option.isSome_iff_exists.mp q

theorem inv_start {CX : CXT} {P : Program} {w : World} {K : PySem.W.Frag} {mg : Str → Option Value} {base : Heap} {N ps : List Str} {qual : Str} {scope : Scope} {f : Addr} {cd : Value} {A : Around} {outer : List Env} {s s1 : Shared} {H : Hp} {E : XK} {us : List Value} {vs : List V}
    (S : FnScope N ps scope) (hd : A.handled = none) (e0 : Env0 P w K mg base A outer s H) (hl : vs.length = ps.length) (r : Vals vs us)
    (x : InCallC s s.heap.objs.size (bindL (envOfC qual scope s.heap.objs.size f cd).kindOf (ps.zip us) fun _ => none) (cellsFrom (s.heap.objs.size + 1) scope.names []) (bindC (envOfC qual scope s.heap.objs.size f cd).kindOf (ps.zip us) fun _ => none) s1) :
    Inv (cxOf CX P w K mg base N qual scope f cd A outer s H E) [] (start N vs) H s1 := by
  have hpl : ps.length ≤ N.length := by have := congrArg List.length S.pre; rw [List.length_take] at this; omega
  obtain ⟨h1, tk, rfl, hk⟩ := x.done
  have noA : ∀ b : Addr, b ∉ (cxOf CX P w K mg base N qual scope f cd A outer s H E).ex := fun b z => absurd (show b ∈ ([] : List Addr) from z) (by simp)
  refine ⟨⟨e0.mod, S.kind, rfl, rfl, Nat.le_refl _, fun y z c h1 h2 => ?_, fun y hy => ?_, fun y c _ h => ?_, fun _ => hd, Around.frames_deeper e0.frames, .inr ⟨rfl, rfl⟩, fun b z => absurd z (noA b), e0.bs, e0.bsz, fun b _ _ => noA b, fun b z => absurd z (noA b), e0.funs, e0.frf⟩,
    rfl, e0.bare, Un.kept hk, ⟨_, x.toInCall.ns, fun i y v h1 h2 h3 => ?_⟩, fun y c h => ⟨_, x.cell y c h⟩, e0.hok.fresh (Nat.le_refl _), fun y c h => ?_, fun p hp => absurd (show p ∈ ([] : List (Addr × Obj)) from hp) (by simp), e0.hok.kept hk, ?_⟩
  · exact name_of_addr x.apart (PySem.mem_of_lookup h1) (PySem.mem_of_lookup h2)
  · have hy : scope.names.lookup y = some .cell ∨ scope.names.lookup y = some .free := hy
    rcases hy with hy | hy
    · exact cell_has hy
    · exact absurd rfl (S.nofree _ (PySem.mem_of_lookup hy))
  · exact Nat.le_of_lt (x.above y c (PySem.mem_of_lookup h))
  · have hi : i < vs.length := by
      unfold start at h2
      by_cases hi : i < vs.length
      · exact hi
      · rw [List.getElem?_append_right (by simpa using hi)] at h2
        rw [List.getElem?_replicate] at h2
        split at h2 <;> cases h2
    have ha : vs[i]? = some v := by
      unfold start at h2
      rw [List.getElem?_append_left (by simpa using hi), List.getElem?_map] at h2
      cases e : vs[i]? with
      | none => rw [e] at h2; cases h2
      | some a => rw [e] at h2; cases h2; rfl
    obtain ⟨u, hu, rv⟩ := r.get ha
    have hp : ps[i]? = some y := by
      rw [← S.pre, List.getElem?_take_of_lt (by omega)]; exact h1
    have ndP : ps.Nodup := by rw [← S.pre]; exact S.nd.sublist (List.take_sublist _ _)
    refine ⟨u, rv, ?_⟩
    rcases S.par y (List.mem_of_getElem? hp) with k | k
    · exact .inl ⟨k, bindL_get ndP hp hu k⟩
    · obtain ⟨c, e⟩ := cell_has (n := s.heap.objs.size + 1) k
      refine .inr ⟨.inl k, c, e, ?_⟩
      have q := x.cell y c e
      rw [bindC_get ndP hp hu (by show scope.names.lookup y ≠ _; rw [k]; decide)] at q
      exact q
  · exact e0.hok.fresh (Nat.le_of_lt (x.above y c (PySem.mem_of_lookup h)))
  · unfold start
    show _ = N.length
    rw [List.length_append, List.length_map, List.length_replicate]
    omega

/-- THE RULE: a def (or a method) of the text, by its body. The body's reading t is chosen for each entry; it is run at the parameters' values -/
theorem fn_of {CX : CXT} {P : Program} {w : World} {K : PySem.W.Frag} {mg : Str → Option Value} {base : Heap} {k : Nat} {f : Addr} {name qual : Str} {params : Arguments} {body : List Stmt} {scope : Scope} {dV kV doc pm cdv ct oc : Value} {an od : Option Addr}
    {osl : Array (Option Value)} {N ps : List Str} {sp : Sp} (lk : K.lookup f = some ⟨oc, od, .func (PySem.W.fnOf name qual params body scope dV kV doc pm an cdv ct), osl⟩) (hcd : PySem.W.codeIn K cdv qual = true) (S : FnScope N ps scope)
    (len : ∀ vs H Q E, sp vs H Q E → vs.length = ps.length)
    (hbody : ∀ (A : Around) (outer : List Env) (s : Shared) (H : Hp) (vs : List V) (Q : VK) (E : XK), Room k (A.deeper (envOfC qual scope s.heap.objs.size f cdv)) → sp vs H Q E →
      ∃ t, PSs (cxOf CX P w K mg base N qual scope f cdv A outer s H E) body t ∧ t { nx := fun _ H' => Q .non H', rt := Q } (start N vs) H) :
    FnOk P w K mg base CX (k + 1) f (PySem.W.fnOf name qual params body scope dV kV doc pm an cdv ct) ps sp := by
  refine ⟨len, fun A outer s H args us vs Q E hr e0 hb r hsp => ?_⟩
  have hl := len _ _ _ _ hsp
  have KX : K.In s.heap := e0.mod.kin.keeps fun b o e => (e0.bs b o e).1
  have lim : s.heap.NoLimit := e0.mod.nolimit.keeps fun b o e => (e0.bs b o e).1
  have hkind : ∀ y ∈ ps.zip us, scope.names.lookup y.1 = some .local ∨ (scope.names.lookup y.1 = some .cell ∧ ((cellsFrom (s.heap.objs.size + 1) scope.names []).lookup y.1).isSome = true) := fun ⟨n, v⟩ hy => by
    rcases S.par n (List.of_mem_zip hy).1 with q | q
    · exact .inl q
    · exact .inr ⟨q, PySem.W.cellsFrom_some _ _ _ (.inl q)⟩
  refine codeAny_call_function hr.depth (KX _ _ lk) rfl S.co S.gen rfl (PySem.W.codeRec_of KX hcd) (hb _ _ _ _ ?_)
  refine wpAny_newFunctionEnv_cells S.kind hkind fun env he s1 x => ?_
  subst he
  refine ⟨lim.keeps x.toInCall.keep, codeAny_func ?_⟩
  obtain ⟨t, ht, hq⟩ := hbody A outer s H vs Q E (hr.deeper _) hsp
  have I : Inv (cxOf CX P w K mg base N qual scope f cdv A outer s H E) [] (start N vs) H s1 := inv_start S hr.hd e0 hl r x
  refine wpAny_mono (ht [] s1 (start N vs) H _ I hq) (fun fl s' hs => ?_) fun e s' hs => hs
  have fin : ∀ {σ' : St} {H' : Hp} {v : V} {u : Value}, Inv (cxOf CX P w K mg base N qual scope f cdv A outer s H E) [] σ' H' s' → RelV v u → Q v H' → CE outer P w H s Q u s' :=
    fun {σ' H' v u} J rv q => ⟨v, H', J.os, J.bare, J.base, J.hok, rv, q⟩
  cases fl with
  | ret u =>
    obtain ⟨v, σ', H', J, rv, q⟩ := hs
    exact fin J rv q
  | next =>
    obtain ⟨σ', H', J, q⟩ := hs
    exact fin (v := V.non) (u := Value.none) J rfl q
  | brk =>
    obtain ⟨_, _, _, q⟩ := hs
    exact False.elim q
  | cont =>
    obtain ⟨_, _, _, q⟩ := hs
    exact False.elim q
end L2

namespace L2
open PySem PySem.Spec PyProof.Rows
section
variable {X : Cx} {x : Str} {p pos : Pos} {e : Expr} {es : List Expr} {t : TA} {id T : String} {r : List V → Hp → VK → Prop}

noncomputable def tCB (r : List V → Hp → VK → Prop) (t : TA) : TE := fun σ H Q => t σ H fun vs H1 => r vs H1 Q
/-- f(e, ..), f a built-in function -/
theorem pe_callB (hc : CallR X (.builtin id) r) (hg : Gl X x) (hm : X.mg x = none) (hv : bootBuiltins x = some (.builtin id)) (ha : PA X (e :: es) t) (hn : x ≠ "__name__" := by decide) (hdb : (x == ("__debug__" : Str)) = false := by decide)
    (he : starEach (e :: es) X.env = (false, eval e X.env) :: starEach es X.env := by rfl) (hpl : (backTo pos (starEach es X.env)).any (·.1) = false := by rfl) : PE X (.Call (.Name x p) (e :: es) [] pos) (tCB r t) := by
  intro pins s σ H Q I h
  refine wpAny_Call_Name_kw (ld_blt I hg hm hv ?_ hn hdb)
  (refine PyProof.Rows.callWith_builtin1 (thn (ha pos pins s σ H _ I h) ?_) he hpl; rintro us s1 ⟨vs, H1, I1, r1, q1⟩; exact hc pins s1 σ H1 vs us Q I1 r1 q1)
/-- T(e, ..), T a built-in type -/
theorem pe_callTy (hc : CallR X (.type T) r) (hg : Gl X x) (hm : X.mg x = none) (hv : bootBuiltins x = some (.type T)) (ha : PA X (e :: es) t) (hn : x ≠ "__name__" := by decide) (hdb : (x == ("__debug__" : Str)) = false := by decide)
    (he : starEach (e :: es) X.env = (false, eval e X.env) :: starEach es X.env := by rfl) (hpl : (backTo pos (starEach es X.env)).any (·.1) = false := by rfl) : PE X (.Call (.Name x p) (e :: es) [] pos) (tCB r t) := by
  intro pins s σ H Q I h
  refine wpAny_Call_Name_kw (ld_blt I hg hm hv ?_ hn hdb)
  (refine PyProof.Rows.callWith_type1 (thn (ha pos pins s σ H _ I h) ?_) he hpl; rintro us s1 ⟨vs, H1, I1, r1, q1⟩; exact hc pins s1 σ H1 vs us Q I1 r1 q1)
end
end L2

namespace L2
open PySem PySem.Spec PyProof.Rows

/-! ### lists of pairs as tables -/
section
variable {κ : Type} [DecidableEq κ]
noncomputable def valV (kvs : List (κ × V)) (k : κ) : Option V := (kvs.find? fun kv => decide (kv.1 = k)).map (·.2)
/-- in its place, or at the end -/
noncomputable def putK (kvs : List (κ × V)) (k : κ) (v : V) : List (κ × V) :=
  if (kvs.any fun kv => decide (kv.1 = k)) = true then kvs.map (fun kv => if kv.1 = k then (kv.1, v) else kv) else kvs ++ [(k, v)]

theorem valV_pos {p : κ × V} {r : List (κ × V)} {k : κ} (e : p.1 = k) : valV (p :: r) k = some p.2 := by simp [valV, List.find?_cons, e]
theorem valV_neg {p : κ × V} {r : List (κ × V)} {k : κ} (e : ¬ p.1 = k) : valV (p :: r) k = valV r k := by simp [valV, List.find?_cons, e]
theorem valV_any (k : κ) : ∀ kvs : List (κ × V), (kvs.any fun kv => decide (kv.1 = k)) = (valV kvs k).isSome
  | [] => rfl
  | p :: r => by
    rw [List.any_cons]
    by_cases e : p.1 = k
    · simp only [valV_pos e, decide_eq_true e, Bool.true_or, Option.isSome_some]
    · rw [valV_neg e, decide_eq_false e, Bool.false_or]; exact valV_any k r
theorem length_putK (kvs : List (κ × V)) (k : κ) (v : V) : (putK kvs k v).length ≤ kvs.length + 1 := by
  unfold putK
  split
  · rw [List.length_map]; omega
  · rw [List.length_append, List.length_cons, List.length_nil]; omega

theorem RelO.isSome_eq {o : Option V} {u : Option Value} (r : RelO o u) : o.isSome = u.isSome := by
  cases o with
  | none => cases u with
    | none => rfl
    | some _ => exact (show False from r).elim
  | some _ => cases u with
    | none => exact (show False from r).elim
    | some _ => rfl
theorem RelO.getD {o : Option V} {u : Option Value} {d : V} {d' : Value} (r : RelO o u) (rd : RelV d d') : RelV (o.getD d) (u.getD d') := by
  cases o with
  | none => cases u with
    | none => exact rd
    | some _ => exact (show False from r).elim
  | some _ => cases u with
    | none => exact (show False from r).elim
    | some _ => exact r

/-- raw tables of the same keys -/
theorem KV.val {kvs : List (κ × V)} {vs : List (κ × Value)} (r : KV kvs vs) (k : κ) : RelO (valV kvs k) (valueAt vs k) := by
  unfold KV at r
  induction r with
  | nil => exact True.intro
  | @cons p q ps qs h t ih =>
    obtain ⟨h1, h2⟩ := h
    by_cases e : p.1 = k
    · have e' : q.1 = k := h1.symm.trans e
      have b : valueAt (q :: qs) k = some q.2 := by simp [valueAt, List.find?_cons, e']
      rw [valV_pos e, b]; exact h2
    · have e' : ¬ q.1 = k := fun z => e (h1.trans z)
      have b : valueAt (q :: qs) k = valueAt qs k := by simp [valueAt, List.find?_cons, e']
      rw [valV_neg e, b]; exact ih
theorem KV.any {kvs : List (κ × V)} {vs : List (κ × Value)} (r : KV kvs vs) (k : κ) : (kvs.any fun kv => decide (kv.1 = k)) = vs.any fun kv => decide (kv.1 = k) := by
  unfold KV at r
  induction r with
  | nil => rfl
  | cons h t ih => rw [List.any_cons, List.any_cons, ih, h.1]
theorem KV.repl {kvs : List (κ × V)} {vs : List (κ × Value)} (r : KV kvs vs) (k : κ) {y : V} {u : Value} (ry : RelV y u) :
    KV (kvs.map fun kv => if kv.1 = k then (kv.1, y) else kv) (vs.map fun kv => if kv.1 = k then (kv.1, u) else kv) := by
  unfold KV at r ⊢
  induction r with
  | nil => exact .nil
  | @cons p q ps qs h t ih =>
    rw [List.map_cons, List.map_cons]
    refine .cons ?_ ih
    obtain ⟨h1, h2⟩ := h
    by_cases e : p.1 = k
    · rw [if_pos e, if_pos (h1.symm.trans e)]; exact ⟨h1, ry⟩
    · rw [if_neg e, if_neg (fun z => e (h1.trans z))]; exact ⟨h1, h2⟩
theorem KV.put {kvs : List (κ × V)} {vs : List (κ × Value)} (r : KV kvs vs) (k : κ) {y : V} {u : Value} (ry : RelV y u) : KV (putK kvs k y) (stored vs k u) := by
  unfold putK stored
  rw [r.any k]
  by_cases e : (vs.any fun kv => decide (kv.1 = k)) = true
  · rw [if_pos e, if_pos e]; exact r.repl k ry
  · rw [if_neg e, if_neg e]; exact Paired.snoc r ⟨rfl, ry⟩
theorem KV.keys {kvs : List (κ × V)} {vs : List (κ × Value)} (r : KV kvs vs) : kvs.map (·.1) = vs.map (·.1) := by
  unfold KV at r
  induction r with
  | nil => rfl
  | cons h t ih => rw [List.map_cons, List.map_cons, ih, h.1]
theorem KV.length {kvs : List (κ × V)} {vs : List (κ × Value)} (r : KV kvs vs) : kvs.length = vs.length := Paired.length r
end


/-! ### a tracked dict, its keys ints and texts or tuples of these -/
theorem kV_is {P : Program} {w : World} {k : Key} {u : Value} (r : RelV (kV k) u) : (mixKind P w).is k u = true := by
  cases k with
  | inl i => obtain ⟨t, e⟩ := (show ∃ t, u = Value.int i t from r); subst e; exact mixKind_int P w i t
  | inr x => obtain ⟨t, e⟩ := (show ∃ t, u = Value.str x t from r); subst e; exact mixKind_str P w x t
theorem items_are {P : Program} {w : World} : ∀ {ks : List Key} {us : List Value}, Vals (ks.map kV) us → ItemsAre (mixKind P w) ks us
  | [], _, r => by rw [List.map_nil] at r; cases r; exact .nil
  | k :: ks, _, r => by
    rw [List.map_cons] at r
    cases r with
    | cons h t => exact .cons (kV_is h) (items_are t)

/-- raw entries of a dict with tuple keys -/
noncomputable abbrev KT (H : Hp) : List (List Key × V) → List (List Key × Addr × Value) → Prop := Paired fun p q => p.1 = q.1 ∧ H q.2.1 = some (.tup (p.1.map kV)) ∧ RelV p.2 q.2.2
theorem KT.val {H : Hp} {kvs : List (List Key × V)} {xs : List (List Key × Addr × Value)} (r : KT H kvs xs) (k : List Key) : RelO (valV kvs k) ((atKey xs k).map (·.2)) := by
  induction r with
  | nil => exact True.intro
  | @cons p q ps qs h t ih =>
    obtain ⟨h1, _, h2⟩ := h
    by_cases e : p.1 = k
    · have e' : q.1 = k := h1.symm.trans e
      have b : atKey (q :: qs) k = some q.2 := by simp [atKey, List.find?_cons, e']
      rw [valV_pos e, b]; exact h2
    · have e' : ¬ q.1 = k := fun z => e (h1.trans z)
      have b : atKey (q :: qs) k = atKey qs k := by simp [atKey, List.find?_cons, e']
      rw [valV_neg e, b]; exact ih
theorem KT.repl {H : Hp} {kvs : List (List Key × V)} {xs : List (List Key × Addr × Value)} (r : KT H kvs xs) (k : List Key) {y : V} {u : Value} (ry : RelV y u) :
    KT H (kvs.map fun kv => if kv.1 = k then (kv.1, y) else kv) (xs.map (putAt k u)) := by
  induction r with
  | nil => exact .nil
  | @cons p q ps qs h t ih =>
    rw [List.map_cons, List.map_cons]
    refine .cons ?_ ih
    obtain ⟨h1, h2, h3⟩ := h
    unfold putAt
    by_cases e : p.1 = k
    · rw [if_pos e, if_pos (h1.symm.trans e)]; exact ⟨h1, h2, ry⟩
    · rw [if_neg e, if_neg (fun z => e (h1.trans z))]; exact ⟨h1, h2, h3⟩
theorem KT.put {H : Hp} {kvs : List (List Key × V)} {xs : List (List Key × Addr × Value)} (r : KT H kvs xs) (k : List Key) {b : Addr} {y : V} {u : Value} (hb : H b = some (.tup (k.map kV))) (ry : RelV y u) :
    KT H (putK kvs k y) (storedH xs k b u) := by
  have e : (kvs.any fun kv => decide (kv.1 = k)) = (atKey xs k).isSome := by
    rw [valV_any, (r.val k).isSome_eq, Option.isSome_map]
  unfold putK storedH
  rw [e]
  by_cases q : (atKey xs k).isSome = true
  · rw [if_pos q, if_pos q]; exact r.repl k ry
  · rw [if_neg q, if_neg q]; exact Paired.snoc r ⟨rfl, hb, ry⟩
theorem KT.keeps {H H' : Hp} {kvs : List (List Key × V)} {xs : List (List Key × Addr × Value)} (r : KT H kvs xs) (ht : ∀ b ys, H b = some (.tup ys) → H' b = some (.tup ys)) : KT H' kvs xs :=
  Paired.mapP r fun _ _ z => ⟨z.1, ht _ _ z.2.1, z.2.2⟩

section
variable {P : Program} {w : World} {H : Hp} {h : Heap} {a : Addr}
theorem rd_of {u : HO} (ok : HOk P w H h) (e : Rd H a u) : ObjOk P w H h a u := e.ok ok
theorem dk_rd {kvs : List (Key × V)} (ok : HOk P w H h) (e : Rd H a (.dK kvs)) : kvs.length ≤ sizeLine ∧ (a == sysModules) = false ∧ ∃ vs, KV kvs vs ∧ h.DictOf (mixKind P w) a vs :=
  show ObjOk P w H h a (.dK kvs) from rd_of ok e
theorem dk_of {kvs : List (Key × V)} (ok : HOk P w H h) (e : H a = some (.dK kvs)) : kvs.length ≤ sizeLine ∧ (a == sysModules) = false ∧ ∃ vs, KV kvs vs ∧ h.DictOf (mixKind P w) a vs := dk_rd ok (.inl e)
/-- a tracked tuple of ints and texts is a key -/
theorem key_of {ks : List Key} (ok : HOk P w H h) (e : H a = some (.tup (ks.map kV))) : (tupleKind (mixKind P w)).is h ks a := by
  obtain ⟨_, its, r, o, h1, h2, ⟨n, h3⟩, _⟩ := (show ObjOk P w H h a (.tup (ks.map kV)) from ok a _ e)
  exact ⟨o, its.toArray, n, h1, h2, h3, by simpa using items_are r⟩
theorem dt_rd {kvs : List (List Key × V)} (ok : HOk P w H h) (e : Rd H a (.dT kvs)) : kvs.length ≤ sizeLine ∧ (a == sysModules) = false ∧
    ∃ xs, KT H kvs xs ∧ h.DictOfH (tupleKind (mixKind P w)) a xs := by
  obtain ⟨z, y, xs, r, o, es, ep, h1, h2, h3, h4, h5⟩ := (show ObjOk P w H h a (.dT kvs) from rd_of ok e)
  refine ⟨z, y, xs, r, o, es, ep, h1, h2, h3, h4, fun x hx => ?_, h5⟩
  have all : ∀ {l : List (List Key × V)} {m : List (List Key × Addr × Value)}, KT H l m → ∀ x ∈ m, (tupleKind (mixKind P w)).is h x.1 x.2.1 := by
    intro l m q
    induction q with
    | nil => intro x hx; exact nomatch hx
    | @cons p q ps qs hq t ih =>
      intro x hx
      rcases List.mem_cons.mp hx with e | hx
      · subst e
        exact key_of ok (by rw [← hq.1]; exact hq.2.1)
      · exact ih x hx
  exact all r x hx
theorem dt_of {kvs : List (List Key × V)} (ok : HOk P w H h) (e : H a = some (.dT kvs)) : kvs.length ≤ sizeLine ∧ (a == sysModules) = false ∧
    ∃ xs, KT H kvs xs ∧ h.DictOfH (tupleKind (mixKind P w)) a xs := dt_rd ok (.inl e)
end

/-- what the dict at a holds at the key y -/
noncomputable def DGet (H : Hp) (a : Addr) (y : V) (r : Option V) : Prop :=
  (∃ kvs k, Rd H a (.dK kvs) ∧ y = kV k ∧ r = valV kvs k) ∨ ∃ kvs k b, Rd H a (.dT kvs) ∧ y = .ref b ∧ H b = some (.tup (k.map kV)) ∧ r = valV kvs k
/-- the heap behind a[y] = v -/
noncomputable def DPut (H : Hp) (a : Addr) (y v : V) (H' : Hp) : Prop :=
  (∃ kvs k, H a = some (.dK kvs) ∧ y = kV k ∧ kvs.length < sizeLine ∧ H' = upd H a (.dK (putK kvs k v))) ∨
  ∃ kvs k b, H a = some (.dT kvs) ∧ y = .ref b ∧ H b = some (.tup (k.map kV)) ∧ kvs.length < sizeLine ∧ H' = upd H a (.dT (putK kvs k v))
theorem DGet.k {H : Hp} {a : Addr} {kvs : List (Key × V)} {k : Key} (e : H a = some (.dK kvs)) : DGet H a (kV k) (valV kvs k) := .inl ⟨kvs, k, .inl e, rfl, rfl⟩
theorem DGet.t {H : Hp} {a b : Addr} {kvs : List (List Key × V)} {k : List Key} (e : H a = some (.dT kvs)) (eb : H b = some (.tup (k.map kV))) : DGet H a (.ref b) (valV kvs k) := .inr ⟨kvs, k, b, .inl e, rfl, eb, rfl⟩
theorem DPut.k {H : Hp} {a : Addr} {kvs : List (Key × V)} {k : Key} {v : V} (e : H a = some (.dK kvs)) (hl : kvs.length < sizeLine) : DPut H a (kV k) v (upd H a (.dK (putK kvs k v))) := .inl ⟨kvs, k, e, rfl, hl, rfl⟩
theorem DPut.t {H : Hp} {a b : Addr} {kvs : List (List Key × V)} {k : List Key} {v : V} (e : H a = some (.dT kvs)) (eb : H b = some (.tup (k.map kV))) (hl : kvs.length < sizeLine) :
    DPut H a (.ref b) v (upd H a (.dT (putK kvs k v))) := .inr ⟨kvs, k, b, e, rfl, eb, hl, rfl⟩


section
variable {X : Cx} {pins : List (Addr × Obj)} {σ : St} {H : Hp} {s : Shared} {a : Addr} {y v : V} {u r : Value} {o : Option V} {A : Around} {E : Value → Shared → Prop}

theorem Inv.big (I : Inv X pins σ H s) : sysModules < s.heap.objs.size := by
  have h : mainGlobals < s.heap.objs.size := (I.mod.glob.keeps I.bk).lt
  exact Nat.lt_trans (by decide) h

/-- y in d -/
theorem d_in {Q : Value → Shared → Prop} (hu : A.units + 1 < cLine) (I : Inv X pins σ H s) (g : DGet H a y o) (ry : RelV y u) (h : ∀ s', Inv X pins σ H s' → Q (.bool o.isSome) s') :
    wpAny (model X.prog X.w) A (compareOp .In u (.ref a)) Q E s := by
  rcases g with ⟨kvs, k, e, ey, l⟩ | ⟨kvs, k, b, e, ey, eb, l⟩
  · subst ey
    obtain ⟨z, hd, vs, rel, dd⟩ := dk_rd I.hok e
    refine wpAny_in_of (kV_is ry) hd dd.mapOf ?_
    rw [← (rel.val k).isSome_eq, ← l]
    exact h _ (I.tok _)
  · subst ey
    cases (show u = Value.ref b from ry)
    obtain ⟨z, hd, xs, rel, dd⟩ := dt_rd I.hok e
    refine wpAny_in_heap (tupleKind_room_in1 hu) (key_of I.hok eb) hd dd ?_
    have q := (rel.val k).isSome_eq
    rw [Option.isSome_map] at q
    rw [← q, ← l]
    exact h _ (I.tok _)
/-- a dict's object is replaced -/
theorem d_write {h' : Heap} {t' : Nat} {ob : HO} (I : Inv X pins σ H s) (mu : Mut (H a)) (hs : Heap.SameBut a s.heap h') (he : ∃ q, h'.get? a = some q) (new : ObjOk X.prog X.w (upd H a ob) h' a ob) :
    Inv X pins σ (upd H a ob) { s with heap := h', toks := t' } :=
  I.write (x := a) (e := a) mu (.inl rfl) (fun b q hb z => (hs.2 b hb).trans z) he new
theorem dk_new {P : Program} {w : World} {H' : Hp} {h' : Heap} {kvs : List (Key × V)} {vs : List (Key × Value)} (z : kvs.length ≤ sizeLine) (hd : (a == sysModules) = false) (rel : KV kvs vs) (dd : h'.DictOf (mixKind P w) a vs) :
    ObjOk P w H' h' a (.dK kvs) := ⟨z, hd, vs, rel, dd⟩
/-- d[y] = v -/
theorem d_setItem {H' : Hp} {Q : Unit → Shared → Prop} (hu : A.units + 1 < cLine) (I : Inv X pins σ H s) (g : DPut H a y v H') (ry : RelV y u) (rv : RelV v r) (h : ∀ s', Inv X pins σ H' s' → Q () s') :
    wpAny (model X.prog X.w) A (setItem (.ref a) u r) Q E s := by
  rcases g with ⟨kvs, k, e, ey, l, eH⟩ | ⟨kvs, k, b, e, ey, eb, l, eH⟩
  · subst ey eH
    obtain ⟨z, hd, vs, rel, dd⟩ := dk_of I.hok e
    have hz : vs.length ≤ sizeLine := by rw [← rel.length]; exact z
    have hl : (putK kvs k v).length ≤ sizeLine := by have := length_putK kvs k v; omega
    refine wpAny_setItem_pairs (hsz := hz) (kV_is ry) dd fun h' dd' hs => h _ ?_
    have he : ∃ q, h'.get? a = some q := let ⟨q, _, _, hq, _⟩ := dd'; ⟨q, hq⟩
    exact d_write I (by rw [e]; exact True.intro) hs he (dk_new hl hd (rel.put k rv) dd')
  · subst ey eH
    cases (show u = Value.ref b from ry)
    obtain ⟨z, hd, xs, rel, dd⟩ := dt_of I.hok e
    have hz : xs.length ≤ sizeLine := by rw [← Paired.length rel]; exact z
    have hl : (putK kvs k v).length ≤ sizeLine := by have := length_putK kvs k v; omega
    refine wpAny_setItem_heap (hsz := hz) (tupleKind_room_in1 hu) (key_of I.hok eb) dd fun h' dd' hs => h _ ?_
    obtain ⟨q, es, ep, hq, h2, h3, h4, _, h5⟩ := dd'
    refine d_write I (by rw [e]; exact True.intro) hs ⟨q, hq⟩ ⟨hl, hd, _, (rel.put k eb rv).keeps fun c ys ec => ?_, q, es, ep, hq, h2, h3, h4, h5⟩
    rw [upd_ne (ne_of ec e (fun z => nomatch z))]
    exact ec
end

section
variable {X : Cx} {pins : List (Addr × Obj)} {σ : St} {H : Hp} {s : Shared} {a : Addr} {kvs : List (Key × V)} {k : Key} {u : Value} {A : Around} {E : Value → Shared → Prop}
end


/-! ### readings and rules -/


/-- d[y] = v -/
noncomputable def sDPut (td ty tv : TE) : TS := fun D σ H => tv σ H fun v H1 => td σ H1 fun x H2 => ty σ H2 fun y H3 => ∃ a H4, x = .ref a ∧ DPut H3 a y v H4 ∧ D.nx σ H4

section
variable {X : Cx} {o i e value : Expr} {pos pos' tpos : Pos} {td ty tv : TE}
theorem ps_dput (hu : X.A.units + 1 < cLine) (ho : PE X o td) (hi : PE X i ty) (hv : PE X value tv) (hs : swapsWith value (some (.Subscript o i pos')) pos.line X.env = pure false) :
    PS X (.Assign [.Subscript o i pos'] value pos) (sDPut td ty tv) := by
  intro pins s σ H D I h
  (refine wpAny_Assign_Subscript (thn (hv pins s σ H _ I h) ?_) hs; rintro r s1 ⟨v, H1, I1, rv, q1⟩; refine thn (ho pins s1 σ H1 _ I1 q1) ?_; rintro u s2 ⟨x, H2, I2, rx, q2⟩; refine thn (hi pins s2 σ H2 _ I2 q2) ?_; rintro iv s3 ⟨y, H3, I3, ry, a, H4, ex, g, q3⟩)
  subst ex
  obtain rfl : u = Value.ref a := rx
  exact d_setItem hu I3 g ry rv fun s4 I4 => ⟨σ, H4, I4, q3⟩
end


/-! ### displays -/
theorem dk_empty {P : Program} {w : World} {H : Hp} (h : Heap) (hb : sysModules < h.objs.size) : ObjOk P w H (h.push { cls := .type "dict", data := .dict #[] }) h.objs.size (.dK []) :=
  ⟨Nat.zero_le _, beq_eq_false_iff_ne.mpr (Ne.symm (Nat.ne_of_lt hb)), [], .nil, Heap.DictOf.new h⟩
/-- {}, to be a dict of the kind that is wanted -/
noncomputable def tDNewK : TE := fun _ H Q => ∀ p, H p = none → Q (.ref p) (upd H p (.dK []))
section
variable {X : Cx} {pos : Pos}
theorem pe_dnewK : PE X (.Dict [] [] pos) tDNewK := fun pins s σ H Q I h =>
  wpAny_Dict_empty ⟨.ref s.heap.objs.size, _, I.laid (a := s.heap.objs.size) (o := .dK []) (t' := s.toks) (fun _ _ q => Heap.get?_push_of_some _ q) (Nat.le_refl _) (dk_empty s.heap I.big), rfl, h _ (I.hok.fresh (Nat.le_refl _))⟩
end




/-! ### methods -/
/-- a method call o.m(e) of a built-in, with one argument: what must be seen of the text -/
structure M1 (X : Cx) (o : Expr) (m : Str) (apos : Pos) (e : Expr) (cpos : Pos) : Prop where
  base : attributeBase o m X.env (eval o X.env) = eval o X.env
  few : ((backTo cpos (starEach [e] X.env)).all (fun x => !x.1) && (backToKw cpos (keywordEach [] X.env)).all (fun x => x.1.isSome)
    && decide (([e] : List Expr).length + ([] : List Keyword).length + (if ([] : List Keyword).isEmpty then 0 else 1) < 30)) = true
  line : (apos.endLine == cpos.line) = true
  trees : backTo cpos (starEach [e] X.env) = [(false, eval e X.env)]
structure M2 (X : Cx) (o : Expr) (m : Str) (apos : Pos) (e f : Expr) (cpos : Pos) : Prop where
  base : attributeBase o m X.env (eval o X.env) = eval o X.env
  few : ((backTo cpos (starEach [e, f] X.env)).all (fun x => !x.1) && (backToKw cpos (keywordEach [] X.env)).all (fun x => x.1.isSome)
    && decide (([e, f] : List Expr).length + ([] : List Keyword).length + (if ([] : List Keyword).isEmpty then 0 else 1) < 30)) = true
  line : (apos.endLine == cpos.line) = true
  trees : backTo cpos (starEach [e, f] X.env) = [(false, eval e X.env), (false, eval f X.env)]


section
variable {X : Cx} {pins : List (Addr × Obj)} {σ : St} {H : Hp} {s : Shared} {a : Addr} {y d : V} {u r : Value} {o : Option V} {A : Around} {E : Value → Shared → Prop}
end

section
variable {X : Cx} {o e f : Expr} {apos cpos : Pos} {td ty tx : TE}
end

/-! ### dict(d): a copy -/
section
variable {X : Cx} {pins : List (Addr × Obj)} {σ : St} {H : Hp} {s : Shared} {a : Addr} {kvs : List (Key × V)} {A : Around} {E : Value → Shared → Prop}
end


section
variable {X : Cx} {pins : List (Addr × Obj)} {σ : St} {H : Hp} {s : Shared} {a : Addr} {y : V} {u : Value} {A : Around} {E : Value → Shared → Prop}
end
end L2
namespace HT
open PySem PyProof.Rows



section
open PySem.SeqAt
open PySem.AutoSeq1 (wpAny_loadPart')
open PySem.MeetsSeq PySem.MeetsSeq2 PySem.MeetsSeq3

end

section
variable {prog : Program} {w : World} {A : Around} {E : Value → Shared → Prop} {s : Shared}


/-- t + u, t not empty -/
theorem cat_tup {t b : Addr} {vs ws : List Value} {Q : Value → Shared → Prop} (ht : IsTup s.heap t vs.toArray) (hb : IsTup s.heap b ws.toArray) (hv : vs ≠ [])
    (h1 : ws = [] → Q (.ref t) s) (h2 : ws ≠ [] → Q (.ref s.heap.objs.size) { s with heap := s.heap.push { cls := .type "tuple", data := .seq (vs ++ ws).toArray } })
    (hsz : vs.length + ws.length ≤ sizeLine) : wpAny (model prog w) A (binaryOp .Add (.ref t) (.ref b)) Q E s := by
  obtain ⟨⟨cls, dd, data, sl⟩, ho, hc, n, hd⟩ := id ht
  obtain ⟨⟨cls2, dd2, data2, sl2⟩, ho2, hc2, n2, hd2⟩ := id hb
  simp only at hc hd hc2 hd2
  subst hc hd hc2 hd2
  have e : vs.toArray ++ ws.toArray = (vs ++ ws).toArray := by simp
  by_cases hw : ws = []
  · exact concat_meets ⟨_, ho, rfl⟩ ⟨_, ho2, rfl⟩ noFill_tuple_add seq_tuple_add PySem.F.slot_tuple_add PySem.F.entry_tuple_add (PySem.F.args_tuple_add_2 _ _)
      (tuple_addW1 t b vs.toArray ws.toArray n n2 dd dd2 sl sl2 (by simpa using hv) (by simp [hw])) ⟨ho, ho2, h1 hw⟩
  · refine concat_meets ⟨_, ho, rfl⟩ ⟨_, ho2, rfl⟩ noFill_tuple_add seq_tuple_add PySem.F.slot_tuple_add PySem.F.entry_tuple_add (PySem.F.args_tuple_add_2 _ _)
      (tuple_addW2 t b vs.toArray ws.toArray n n2 dd dd2 sl sl2 (by simpa using hv) (by simpa using hw) (by rw [List.size_toArray, List.size_toArray]; exact hsz)) ⟨ho, ho2, ?_⟩
    rw [e]
    exact h2 hw

/-! ### t[a:b], not the whole -/
/-- a slice's bound as a place among n (d where it is left out) -/
noncomputable def sIx (n d : Nat) : Option Int → Nat
  | none => d
  | some v => if v < 0 then (v + (n : Int)).toNat else min v.toNat n
theorem sIx_none (n d : Nat) : sIx n d none = d := rfl
theorem sIx_nat (n d k : Nat) : sIx n d (some (k : Int)) = min k n := by
  show (if (k : Int) < 0 then ((k : Int) + (n : Int)).toNat else min (k : Int).toNat n) = min k n
  rw [if_neg (by omega), Int.toNat_natCast]
theorem sIx_le (n d : Nat) (hd : d ≤ n) (o : Option Int) : sIx n d o ≤ n := by
  cases o with
  | none => exact hd
  | some v =>
    show (if v < 0 then (v + (n : Int)).toNat else min v.toNat n) ≤ n
    by_cases hv : v < 0
    · rw [if_pos hv]; omega
    · rw [if_neg hv]; exact Nat.min_le_right _ _
theorem clip_eq (v : Int) (n d : Nat) : (if v < 0 then max (v + (n : Int)) 0 else min v (n : Int)) = ((sIx n d (some v) : Nat) : Int) := by
  show (if v < 0 then max (v + (n : Int)) 0 else min v (n : Int)) = (((if v < 0 then (v + (n : Int)).toNat else min v.toNat n) : Nat) : Int)
  by_cases hv : v < 0
  · simp only [if_pos hv]; omega
  · simp only [if_neg hv]; omega
theorem adjust_gen (lo hi : Option Int) (n : Nat) : Builtin.Slice.sliceAdjust lo hi 1 (n : Int) = (((sIx n 0 lo : Nat) : Int), ((sIx n n hi : Nat) : Int)) := by
  have h1 : ¬ ((1 : Int) < 0) := by omega
  unfold Builtin.Slice.sliceAdjust
  simp only [h1, if_false]
  refine Prod.ext ?_ ?_
  · cases lo with
    | none => rfl
    | some v => exact clip_eq v n 0
  · cases hi with
    | none => rfl
    | some v => exact clip_eq v n n
theorem places_gen (i j : Nat) : Builtin.Slice.slicePlaces (i : Int) (j : Int) 1 = j - i := by
  unfold Builtin.Slice.slicePlaces
  have h1 : (1 : Int) > 0 := by omega
  simp only [h1, if_true, Int.ediv_one]
  split <;> omega
theorem slicePart_ {v : Value} {o : Option Int} {Q : Option Int → Shared → Prop} (p : IsPart v o) (h : Q o s) : wpAny (model prog w) A (Builtin.Slice.slicePartIndex v) Q E s := by
  cases p with
  | none => exact slicePart_none h
  | int i t => exact slicePart_int h
theorem sliceApplied_gen {sl : Addr} {vl vu : Value} {lo hi : Option Int} {n : Nat} {Q : Int × Int × Nat → Shared → Prop} (hs : s.heap.IsSliceOf sl vl vu .none) (pl : IsPart vl lo) (pu : IsPart vu hi)
    (h : Q (((sIx n 0 lo : Nat) : Int), 1, sIx n n hi - sIx n 0 lo) s) : wpAny (model prog w) A (Builtin.Slice.sliceApplied (.ref sl) (pure (n : Int))) Q E s := by
  obtain ⟨os, hos, hcs, hds⟩ := id hs
  unfold Builtin.Slice.sliceApplied Builtin.Slice.sliceFields
  refine wpAny_bind (wpAny_bind (wpAny_field hos hds (x := vl) rfl (wpAny_bind (wpAny_field hos hds (x := vu) rfl (wpAny_bind (wpAny_field hos hds (x := .none) rfl (wpAny_pure ?_)))))))
  refine wpAny_bind (slicePart_none ?_)
  show wpAny _ _ (if ((1 : Int) == 0) = true then _ else _) _ _ s
  rw [if_neg (by decide)]
  refine wpAny_bind (slicePart_ pl (wpAny_bind (slicePart_ pu (wpAny_bind (wpAny_pure ?_)))))
  show wpAny _ _ (match Builtin.Slice.sliceAdjust lo hi 1 (n : Int) with | (lo, hi) => pure (lo, (1 : Int), Builtin.Slice.slicePlaces lo hi 1)) _ _ s
  rw [adjust_gen lo hi n]
  show wpAny _ _ (pure (((sIx n 0 lo : Nat) : Int), (1 : Int), Builtin.Slice.slicePlaces ((sIx n 0 lo : Nat) : Int) ((sIx n n hi : Nat) : Int) 1)) _ _ s
  rw [places_gen]
  exact wpAny_pure h
theorem pick_gen (xs : Array Value) (i k : Nat) : ((List.range k).filterMap fun (m : Nat) => xs[((i : Int) + (m : Int) * 1).toNat]?).toArray = ((xs.toList.drop i).take k).toArray := by
  have e : (fun (m : Nat) => xs[((i : Int) + (m : Int) * 1).toNat]?) = fun m => xs[i + m]? := by
    funext m
    have : ((i : Int) + (m : Int) * 1).toNat = i + m := by omega
    rw [this]
  rw [e]
  have := pick_run xs i k
  rw [List.filterMap_map] at this
  have e2 : ((fun x => xs[x]?) ∘ fun x => i + x) = fun m => xs[i + m]? := rfl
  rw [e2] at this
  rw [this]

theorem getItem_tuple_cut {t sl : Addr} {items : Array Value} {vl vu : Value} {lo hi : Option Int} {Q : Value → Shared → Prop} (ht : IsTup s.heap t items) (hs : s.heap.IsSliceOf sl vl vu .none) (pl : IsPart vl lo) (pu : IsPart vu hi)
    (hw : ¬ (sIx items.size 0 lo = 0 ∧ sIx items.size items.size hi = items.size))
    (h : Q (.ref s.heap.objs.size) { s with heap := s.heap.push { cls := .type "tuple", data := .seq ((items.toList.drop (sIx items.size 0 lo)).take (sIx items.size items.size hi - sIx items.size 0 lo)).toArray } })
    (hsz : items.size ≤ sizeLine) : wpAny (model prog w) A (getItem (.ref t) (.ref sl)) Q E s := by
  have htake : sizeOk (.seq ((items.toList.drop (sIx items.size 0 lo)).take (sIx items.size items.size hi - sIx items.size 0 lo)).toArray) := by
    show ((items.toList.drop (sIx items.size 0 lo)).take (sIx items.size items.size hi - sIx items.size 0 lo)).toArray.size ≤ sizeLine
    rw [List.size_toArray, List.length_take, List.length_drop, Array.length_toList]
    omega
  have hj : sIx items.size items.size hi ≤ items.size := sIx_le _ _ (Nat.le_refl _) hi
  obtain ⟨os, hos, hcs, hds⟩ := id hs
  have hTs : s.TypeIs (.ref sl) "slice" := ⟨os, hos, hcs⟩
  unfold getItem
  try with_reducible refine wpAny_holding ?_
  first | refine wpAny_bind (wpAny_pure ?_) | skip
  refine wpAny_bind (wpAny_sequenceKey ht.typeIs (by decide) ?_)
  refine wpAny_bind (wpAny_callSpecial?_slot (name := Str.ofString "__getitem__") ht.typeIs PyProof.Rows.slot_tuple_getitem
    (wpAny_call_entry PyProof.Rows.slot_tuple_getitem ht.typeIs entry_tuple_getitem ?_ (args_tuple_getitem _ _)))
  show wpAny _ _ (Builtin.Tuple.tupleItemsOf (.ref t) >>= _) _ _ s
  refine wpAny_bind (tupleItemsOf_ ht ?_)
  refine wpAny_bind (wpAny_typeOf hTs ?_)
  rw [if_pos (by decide)]
  refine wpAny_bind (sliceApplied_gen hs pl pu ?_)
  have hno : ¬ ((((sIx items.size 0 lo : Nat) : Int) == 0 && (1 : Int) == 1 && (sIx items.size items.size hi - sIx items.size 0 lo) == items.size) = true) := by
    intro q
    rw [Bool.and_eq_true, Bool.and_eq_true] at q
    have q1 : ((sIx items.size 0 lo : Nat) : Int) = 0 := eq_of_beq q.1.1
    have q2 : sIx items.size items.size hi - sIx items.size 0 lo = items.size := eq_of_beq q.2
    exact hw ⟨by omega, by omega⟩
  show wpAny _ _ (if (((sIx items.size 0 lo : Nat) : Int) == 0 && (1 : Int) == 1 && (sIx items.size items.size hi - sIx items.size 0 lo) == items.size) = true then _ else _) _ _ s
  rw [if_neg hno, pick_gen]
  first
    | exact wpAny_bind (m := Builtin.Tuple.tupleExact _) (wpAny_newObj_type (wpAny_pure ⟨_, rfl, wpAny_pure h⟩) htake)
    | exact wpAny_bind (m := Builtin.Tuple.tupleExact _) (wpAny_newObj_type (wpAny_bind (wpAny_pure (wpAny_pure ⟨_, rfl, wpAny_pure h⟩))) htake)
    | exact wpAny_bind (wpAny_bind (m := Builtin.Tuple.tupleExact _) (wpAny_newObj_type (wpAny_pure (wpAny_pure ⟨_, rfl, wpAny_pure h⟩)) htake))
    | exact wpAny_bind (wpAny_bind (m := Builtin.Tuple.tupleExact _) (wpAny_newObj_type (wpAny_pure ⟨_, rfl, wpAny_pure h⟩) htake))
end
end HT

namespace L2
open PySem PySem.Spec PyProof.Rows

/-! ### the parts of a slice -/
noncomputable abbrev TO := St → Hp → (Option Int → Hp → Prop) → Prop
/-- a slice's part (left out, or an int) -/
noncomputable def PO (X : Cx) (e : Option Expr) (t : TO) : Prop :=
  ∀ (pins : List (Addr × Obj)) (s : Shared) (σ : St) (H : Hp) (Q : Option Int → Hp → Prop), Inv X pins σ H s → t σ H Q →
    wpAny (model X.prog X.w) X.A (evalPart e X.env) (fun u s' => ∃ o H', Inv X pins σ H' s' ∧ IsPart u o ∧ Q o H') X.xe s
noncomputable def tNoPart : TO := fun _ H Q => Q none H
noncomputable def tPart (t : TE) : TO := fun σ H Q => t σ H fun x H1 => ∃ i, x = .int i ∧ Q (some i) H1

theorem intsAre_of {ns : List Int} : ∀ {us : List Value}, Vals (ns.map V.int) us → IntsAre us ns := by
  induction ns with
  | nil => intro us r; rw [List.map_nil] at r; cases r; exact .nil
  | cons n ns ih =>
    intro us r
    rw [List.map_cons] at r
    cases r with
    | cons r1 r2 =>
      obtain ⟨t, e⟩ := r1
      subst e
      exact .cons n t (ih r2)

section
variable {X : Cx} {e : Expr} {te : TE} {lo hi : Option Expr} {tl th : TO} {pos p2 : Pos}

theorem po_none : PO X none tNoPart := by
  intro pins s σ H Q I h
  rw [evalPart_none]
  exact wpAny_pure ⟨none, H, I, .none, h⟩
theorem po_some (h : PE X e te) : PO X (some e) (tPart te) := by
  intro pins s σ H Q I hw
  rw [evalPart_some]
  (refine thn (h pins s σ H _ I hw) ?_; rintro u s1 ⟨x, H1, I1, r1, q1⟩)
  obtain ⟨i, rfl, q⟩ := q1
  obtain ⟨t, rfl⟩ := r1
  exact ⟨some i, H1, I1, .int i t, q⟩

/-- what a slice of a value is, by values: the slice object stands at sl -/
noncomputable def SlR (X : Cx) (r : V → Option Int → Option Int → Hp → VK → Prop) : Prop :=
  ∀ (pins : List (Addr × Obj)) (s : Shared) (σ : St) (H : Hp) (x : V) (v vl vu : Value) (lo hi : Option Int) (sl : Addr) (Q : VK), Inv X pins σ H s → RelV x v → s.heap.IsSliceOf sl vl vu .none → IsPart vl lo → IsPart vu hi → r x lo hi H Q →
    ∃ T id, typeLookup (.type T) "__getitem__" = pure (some (.builtin id)) ∧ s.TypeIs v T ∧ wpAny (model X.prog X.w) X.A (getItem v (.ref sl)) (EP X pins σ Q) X.xe s
theorem SlR.or {r r' : V → Option Int → Option Int → Hp → VK → Prop} (h : SlR X r) (h' : SlR X r') : SlR X (fun x lo hi H Q => r x lo hi H Q ∨ r' x lo hi H Q) := by
  intro pins s σ H x v vl vu lo hi sl Q I rx hs pl pu q
  rcases q with q | q
  · exact h pins s σ H x v vl vu lo hi sl Q I rx hs pl pu q
  · exact h' pins s σ H x v vl vu lo hi sl Q I rx hs pl pu q
noncomputable def tSl (r : V → Option Int → Option Int → Hp → VK → Prop) (te : TE) (tl th : TO) : TE := fun σ H Q => te σ H fun x H1 => tl σ H1 fun l H2 => th σ H2 fun u H3 => r x l u H3 Q
/-- a[lo:hi], any a -/
theorem pe_slice {r : V → Option Int → Option Int → Hp → VK → Prop} (hr : SlR X r) (he : PE X e te) (hl : PO X lo tl) (hu : PO X hi th) : PE X (.Subscript e (.Slice lo hi none p2) pos) (tSl r te tl th) := by
  intro pins s σ H Q I h
  (refine Subscript_ (thn (he pins s σ H _ I h) ?_); rintro v s1 ⟨x, H1, I1, r1, q1⟩)
  (refine wpAny_Slice (thn (hl pins s1 σ H1 _ I1 q1) ?_); rintro vl s2 ⟨l, H2, I2, pl, q2⟩; refine thn (hu pins s2 σ H2 _ I2 q2) ?_; rintro vu s3 ⟨u, H3, I3, pu, q3⟩)
  rw [evalPart_none]
  refine wpAny_pure ?_
  have I4 : Inv X pins σ H3 { s3 with heap := s3.heap.push { cls := .type "slice", data := .fields #[vl, vu, .none] } } := I3.kept (t' := s3.toks) fun b ob q => Heap.get?_push_of_some _ q
  obtain ⟨T, id, hT, ht, hg⟩ := hr pins { s3 with heap := s3.heap.push { cls := .type "slice", data := .fields #[vl, vu, .none] } } σ H3 x v vl vu l u s3.heap.objs.size Q I4 r1 (Heap.IsSliceOf.new ..) pl pu q3
  show wpAny (model X.prog X.w) X.A (subscriptTail e (.Slice lo hi none p2) v (.ref s3.heap.objs.size)) (EP X pins σ Q) X.xe { s3 with heap := s3.heap.push { cls := .type "slice", data := .fields #[vl, vu, .none] } }
  exact tail_any (ops := [.ref s3.heap.objs.size, v]) ht hT hg (by with_unfolding_all rfl)

/-- the items of xs[lo:hi] -/
noncomputable def cutV (xs : List V) (lo hi : Option Int) : List V := (xs.drop (HT.sIx xs.length 0 lo)).take (HT.sIx xs.length xs.length hi - HT.sIx xs.length 0 lo)
theorem cutV_length (xs : List V) (lo hi : Option Int) : (cutV xs lo hi).length ≤ xs.length := by
  unfold cutV
  rw [List.length_take, List.length_drop]
  omega
/-- t[lo:hi], not the whole of it (the whole would be t itself) -/
noncomputable def rSlT (K : PySem.W.Frag) : V → Option Int → Option Int → Hp → VK → Prop := fun x lo hi H Q => ∃ a xs, x = .ref a ∧ SqT K H a xs ∧
  ¬ (HT.sIx xs.length 0 lo = 0 ∧ HT.sIx xs.length xs.length hi = xs.length) ∧ ∀ p, H p = none → Q (.ref p) (upd H p (.tup (cutV xs lo hi)))
theorem sl_tup : SlR X (rSlT X.K) := by
  intro pins s σ H x v vl vu lo hi sl Q I rx hs pl pu h
  obtain ⟨a, xs, rfl, hx, hw, q⟩ := h
  cases rx
  obtain ⟨its, r, ht, hz⟩ := I.tuple hx
  have hlen : its.toArray.size = xs.length := by rw [List.size_toArray]; exact r.length.symm
  refine ⟨"tuple", _, PyProof.Rows.slot_tuple_getitem.lookup, ht.typeIs, ?_⟩
  refine HT.getItem_tuple_cut ht hs pl pu (by rw [hlen]; exact hw) ?_ (by rw [hlen]; exact hz)
  rw [hlen]
  refine ⟨.ref s.heap.objs.size, _, I.laid (t' := s.toks) (o := .tup (cutV xs lo hi)) (fun b ob q => Heap.get?_push_of_some _ q) (Nat.le_refl _) ?_, rfl, q _ (I.hok.fresh (Nat.le_refl _))⟩
  exact ⟨Nat.le_trans (cutV_length xs lo hi) hz, _, (r.drop (HT.sIx xs.length 0 lo)).take (HT.sIx xs.length xs.length hi - HT.sIx xs.length 0 lo), TupD.new _ _⟩

/-! ### t < u, t + u -/
/-- t + u, t not empty: u empty gives t itself -/
noncomputable def rCatT (K : PySem.W.Frag) : R2 := fun x y H Q => ∃ a b xs ys, x = .ref a ∧ y = .ref b ∧ SqT K H a xs ∧ SqT K H b ys ∧ xs ≠ [] ∧ xs.length + ys.length ≤ sizeLine ∧
  (ys = [] → Q (.ref a) H) ∧ (ys ≠ [] → ∀ p, H p = none → Q (.ref p) (upd H p (.tup (xs ++ ys))))
theorem Vals.nil_iff {xs : List V} {us : List Value} (r : Vals xs us) : us = [] ↔ xs = [] := by
  cases r with
  | nil => simp
  | cons _ _ => simp
theorem op_catT : OpR X (binaryOp .Add) (rCatT X.K) := by
  intro pins s σ H x y v u Q I rx ry h
  obtain ⟨a, b, xs, ys, rfl, rfl, ha, hb, hx, hz, q1, q2⟩ := h
  cases rx
  cases ry
  obtain ⟨its, r1, p1, _⟩ := I.tuple ha
  obtain ⟨its2, r2, p2, _⟩ := I.tuple hb
  refine HT.cat_tup p1 p2 (fun z => hx (r1.nil_iff.mp z)) (fun z => ⟨.ref a, H, I, rfl, q1 (r2.nil_iff.mp z)⟩) (fun z => ?_) (by rw [← r1.length, ← r2.length]; exact hz)
  refine ⟨.ref s.heap.objs.size, _, I.laid (t' := s.toks) (o := .tup (xs ++ ys)) (fun b ob q => Heap.get?_push_of_some _ q) (Nat.le_refl _) ?_, rfl, q2 (fun w => z (r2.nil_iff.mpr w)) _ (I.hok.fresh (Nat.le_refl _))⟩
  exact ⟨by rw [List.length_append]; exact hz, _, r1.append r2, TupD.new _ _⟩
end
end L2

namespace L2
open PySem PySem.Spec PyProof.Rows

/-! ### places -/
/-- the place that an index of any sign means -/
noncomputable def ixN (n : Nat) (i : Int) : Option Nat := if 0 ≤ i then (if i < n then some i.toNat else none) else if -(n : Int) ≤ i then some (i + n).toNat else none
noncomputable def atI {α : Type} (xs : List α) (i : Int) : Option α := (ixN xs.length i).bind fun j => xs[j]?
theorem ixN_seq {n : Nat} {i : Int} {j : Nat} (h : ixN n i = some j) : seqIndex? i n = some j ∧ j < n ∧ -(n : Int) ≤ i ∧ i < n := by
  unfold ixN at h
  by_cases h0 : 0 ≤ i
  · rw [if_pos h0] at h
    by_cases h1 : i < n
    · rw [if_pos h1] at h
      have e : i.toNat = j := Option.some.inj h
      exact ⟨by rw [seqIndex_of h0 h1, e], by omega, by omega, h1⟩
    · rw [if_neg h1] at h; cases h
  · rw [if_neg h0] at h
    by_cases h1 : -(n : Int) ≤ i
    · rw [if_pos h1] at h
      have e : (i + n).toNat = j := Option.some.inj h
      exact ⟨by rw [seqIndex_neg (by omega) h1, e], by omega, h1, by omega⟩
    · rw [if_neg h1] at h; cases h
theorem atI_get {α : Type} {xs : List α} {i : Int} {v : α} (h : atI xs i = some v) : ∃ j, seqIndex? i xs.length = some j ∧ xs[j]? = some v ∧ j < xs.length ∧ -(xs.length : Int) ≤ i ∧ i < xs.length := by
  unfold atI at h
  cases e : ixN xs.length i with
  | none => rw [e] at h; cases h
  | some j =>
    rw [e] at h
    obtain ⟨h1, h2, h3, h4⟩ := ixN_seq e
    exact ⟨j, h1, h, h2, h3, h4⟩
theorem atI_nat {α : Type} {xs : List α} {j : Nat} {v : α} (h : xs[j]? = some v) : atI xs (j : Int) = some v := by
  have hj : j < xs.length := (List.getElem?_eq_some_iff.mp h).1
  have e : ixN xs.length (j : Int) = some j := by
    unfold ixN
    rw [if_pos (by omega), if_pos (by omega)]; simp
  unfold atI; rw [e]; exact h

/-! ### what may be subscripted -/
/-- what stands as an index of a plain subscript -/
noncomputable def PlainIx (b : Expr) : Prop := ∀ o i, subscripted b false o i = operate [o, i] (getItem o i)
/-- a subscript by values -/
noncomputable def IxR (X : Cx) (r : R2) : Prop :=
  ∀ (value slice : Expr) (pins : List (Addr × Obj)) (s : Shared) (σ : St) (H : Hp) (x y : V) (v u : Value) (Q : VK), Inv X pins σ H s → RelV x v → RelV y u → r x y H Q →
    subscripted slice false v u = operate [v, u] (getItem v u) → wpAny (model X.prog X.w) X.A (subscriptTail value slice v u) (EP X pins σ Q) X.xe s
/-- a call of a builtin's method by values: the receiver, the arguments -/
noncomputable def MtR (X : Cx) (id : String) (r : V → List V → Hp → VK → Prop) : Prop :=
  ∀ (pins : List (Addr × Obj)) (s : Shared) (σ : St) (H : Hp) (x : V) (xs : List V) (v : Value) (us : List Value) (Q : VK), Inv X pins σ H s → RelV x v → Vals xs us → r x xs H Q →
    wpAny (model X.prog X.w) X.A (call (.builtin id) (v :: us)) (EP X pins σ Q) X.xe s
section
variable {X : Cx} {a b : Expr} {ta tb : TE} {pos : Pos}
theorem IxR.or {r r' : R2} (h : IxR X r) (h' : IxR X r') : IxR X (fun x y H Q => r x y H Q ∨ r' x y H Q) := by
  intro value slice pins s σ H x y v u Q I rx ry q hs
  rcases q with q | q
  · exact h value slice pins s σ H x y v u Q I rx ry q hs
  · exact h' value slice pins s σ H x y v u Q I rx ry q hs
theorem MtR.or {id : String} {r r' : V → List V → Hp → VK → Prop} (h : MtR X id r) (h' : MtR X id r') : MtR X id (fun x xs H Q => r x xs H Q ∨ r' x xs H Q) := by
  intro pins s σ H x xs v us Q I rx rs q
  rcases q with q | q
  · exact h pins s σ H x xs v us Q I rx rs q
  · exact h' pins s σ H x xs v us Q I rx rs q
/-- a[b] -/
theorem pe_ix {r : R2} (hr : IxR X r) (ha : PE X a ta) (hb : PE X b tb) (hs : PlainIx b) : PE X (.Subscript a b pos) (tOp r ta tb) := by
  intro pins s σ H Q I h
  exact Subscript_ (binT ha hb I h fun v u s2 x y H2 I2 rx ry q => hr a b pins s2 σ H2 x y v u Q I2 rx ry q (hs _ _))

noncomputable def rIxL (K : PySem.W.Frag) : R2 := fun x y H Q => ∃ p xs i v, x = .ref p ∧ y = .int i ∧ SqL K H p xs ∧ atI xs i = some v ∧ Q v H
noncomputable def rIxT (K : PySem.W.Frag) : R2 := fun x y H Q => ∃ p xs i v, x = .ref p ∧ y = .int i ∧ SqT K H p xs ∧ atI xs i = some v ∧ Q v H
noncomputable def rIxS : R2 := fun x y H Q => ∃ z i c, x = .str z ∧ y = .int i ∧ z.length ≤ sizeLine ∧ atI z.cps.toList i = some c ∧ Q (.str ⟨#[c]⟩) H
theorem ix_list : IxR X (rIxL X.K) := by
  intro value slice pins s σ H x y v u Q I rx ry h hs
  obtain ⟨p, xs, i, z, rfl, rfl, hq, he, q⟩ := h
  cases rx
  obtain ⟨t, rfl⟩ := ry
  obtain ⟨its, r, pl, hz⟩ := I.list hq
  obtain ⟨j, h1, h2, h3, h4, h5⟩ := atI_get he
  obtain ⟨w, ew, rw'⟩ := r.get h2
  have hl := r.length
  have hn := line63
  have fin : EP X pins σ Q w s := ⟨z, H, I, rw', q⟩
  by_cases h0 : 0 ≤ i
  · have hj : i.toNat = j := by
      rw [seqIndex_of h0 h5] at h1
      exact Option.some.inj h1
    exact item_listR pl.isList h0 (by omega) (by rw [hj]; simpa using ew) fin hs
  · have hj : (i + (its.toArray.size : Int)).toNat = j := by
      rw [seqIndex_neg (by omega) h4] at h1
      rw [List.size_toArray, ← hl]
      exact Option.some.inj h1
    exact subscriptTail_builtinR (x := w) pl.isList.typeIs slot_list_getitem.lookup
      (wpAny_getItem_list_neg (Q := fun r s' => r = w ∧ EP X pins σ Q r s') pl.isList (by omega) (by rw [List.size_toArray] <;> omega) (by omega) (by rw [hj]; simpa using ew) ⟨rfl, fin⟩) hs
theorem ix_tup : IxR X (rIxT X.K) := by
  intro value slice pins s σ H x y v u Q I rx ry h hs
  obtain ⟨p, xs, i, z, rfl, rfl, hq, he, q⟩ := h
  cases rx
  obtain ⟨t, rfl⟩ := ry
  obtain ⟨its, r, pl, hz⟩ := I.tuple hq
  obtain ⟨j, h1, h2, h3, h4, h5⟩ := atI_get he
  obtain ⟨w, ew, rw'⟩ := r.get h2
  have hl := r.length
  have hn := line63
  have fin : EP X pins σ Q w s := ⟨z, H, I, rw', q⟩
  exact subscriptTail_builtinR (x := w) pl.typeIs slot_tuple_getitem.lookup
    (getItem_tuple (j := j) (Q := fun r s' => r = w ∧ EP X pins σ Q r s') pl (by omega) (by omega) (by rw [List.size_toArray, ← hl]; exact h1) (by simpa using ew) ⟨rfl, fin⟩) hs
theorem ix_str : IxR X rIxS := by
  intro value slice pins s σ H x y v u Q I rx ry h hs
  obtain ⟨z, i, c, rfl, rfl, hz, he, q⟩ := h
  obtain ⟨t, rfl⟩ := rx
  obtain ⟨t', rfl⟩ := ry
  obtain ⟨j, h1, h2, h3, h4, h5⟩ := atI_get he
  have hl : z.cps.toList.length = z.length := by simp [Str.length]
  rw [hl] at h1 h4 h5
  have hn := line63
  exact tail_any (typeIs_str s z t) slot_str_getitem.lookup (getItem_str (c := c) (by
    have e1 : decide (i < -(2 ^ 63 : Int)) = false := decide_eq_false (by omega)
    have e2 : decide (i ≥ 2 ^ 63) = false := decide_eq_false (by omega)
    rw [e1, e2, Bool.or_false]) (by rw [h1]; simpa using h2) ⟨.str ⟨#[c]⟩, H, I.tok _, ⟨_, rfl⟩, q⟩) hs
/-- list, tuple or str -/
noncomputable def rIx (K : PySem.W.Frag) : R2 := fun x y H Q => rIxL K x y H Q ∨ rIxT K x y H Q ∨ rIxS x y H Q
theorem ix_seq : IxR X (rIx X.K) := ix_list.or (ix_tup.or ix_str)

/-! ### xs[i] = v, any sign -/
/-- the list's object behind a store -/
theorem mapSeq_set (its : List Value) (n j : Nat) (u : Value) : Obj.mapSeq (·.setIfInBounds j u) { cls := .type "list", data := .seq its.toArray n } = { cls := .type "list", data := .seq (its.set j u).toArray n } := by
  simp [Obj.mapSeq]
theorem Inv.lst {pins : List (Addr × Obj)} {σ : St} {H : Hp} {s : Shared} {p : Addr} {xs : List V} (I : Inv X pins σ H s) (h : H p = some (.lst xs)) :
    ∃ (its : List Value) (n : Nat), Vals xs its ∧ s.heap.get? p = some { cls := .type "list", data := .seq its.toArray n } ∧ xs.length ≤ sizeLine := by
  obtain ⟨z, its, n, r, e⟩ := I.hok p _ h
  exact ⟨its, n, r, e, z⟩
/-- the list at p is written by an update of its object -/
theorem Inv.lstUpd {pins : List (Addr × Obj)} {σ : St} {H : Hp} {s : Shared} {p : Addr} {xs ys : List V} {its its' : List Value} {n n' : Nat} {f : Obj → Obj} (I : Inv X pins σ H s) (h : H p = some (.lst xs))
    (ho : s.heap.get? p = some { cls := .type "list", data := .seq its.toArray n }) (hf : f { cls := .type "list", data := .seq its.toArray n } = { cls := .type "list", data := .seq its'.toArray n' }) (r : Vals ys its') (hz : ys.length ≤ sizeLine) (t : Nat) :
    Inv X pins σ (upd H p (.lst ys)) { s with heap := s.heap.update p f, toks := t } := by
  have e : (s.heap.update p f).get? p = some { cls := .type "list", data := .seq its'.toArray n' } := by
    rw [Heap.get?_update_self f ho (by rw [hf] <;> rfl), hf]
  refine I.write (x := p) (e := p) (by rw [h]; trivial) (.inl rfl) (fun b u hb q => (Heap.get?_update_other _ _ (Ne.symm hb)).trans q) ⟨_, e⟩ ?_
  exact ⟨hz, its', n', r, e⟩
noncomputable def rSetL : V → V → V → Hp → (Hp → Prop) → Prop := fun o i v H Q => ∃ p xs k j, o = .ref p ∧ i = .int k ∧ H p = some (.lst xs) ∧ ixN xs.length k = some j ∧ Q (upd H p (.lst (xs.set j v)))
theorem set_list : PSet X rSetL := by
  intro pins s σ H o i v ov iv u Q I ro ri rv h
  obtain ⟨p, xs, k, j, rfl, rfl, hp, hj, q⟩ := h
  cases ro
  obtain ⟨t, rfl⟩ := ri
  obtain ⟨its, n, r, ho, hz⟩ := I.lst hp
  obtain ⟨h1, h2, h3, h4⟩ := ixN_seq hj
  have hl := r.length
  have hn := line63
  have I' : Inv X pins σ (upd H p (.lst (xs.set j v))) { s with heap := s.heap.update p (Obj.mapSeq (·.setIfInBounds j u)) } :=
    I.lstUpd hp ho (mapSeq_set its n j u) (r.set rv j) (by rw [List.length_set]; exact hz) s.toks
  by_cases h0 : 0 ≤ k
  · have hk : k.toNat = j := by
      rw [seqIndex_of h0 h4] at h1
      exact Option.some.inj h1
    exact PySem.W.ki_setAt ho h0 (by omega) (by rw [List.size_toArray, ← hl]; exact h4) (by rw [hk]; exact ⟨_, I', q⟩)
  · have hk : (k + (its.toArray.size : Int)).toNat = j := by
      rw [seqIndex_neg (by omega) h3] at h1
      rw [List.size_toArray, ← hl]
      exact Option.some.inj h1
    exact PySem.W.ki_setBack ho (by omega) (by rw [List.size_toArray, ← hl]; exact h3) (by omega) (by rw [hk]; exact ⟨_, I', q⟩)

/-! ### slices -/
theorem slice_bounds (lo hi : Option Int) (n : Nat) : (sliceBounds lo hi none n).1 = ((HT.sIx n 0 lo : Nat) : Int) ∧ (sliceBounds lo hi none n).2.1 = ((HT.sIx n n hi : Nat) : Int) ∧ (sliceBounds lo hi none n).2.2 = 1 := by
  refine ⟨?_, ?_, rfl⟩
  · cases lo with
    | none => simp [sliceBounds, HT.sIx]
    | some i =>
      simp only [sliceBounds, HT.sIx, Option.getD_none, show (1 : Int) > 0 by decide, if_true]
      by_cases h : i < 0
      · simp only [h, if_true] <;> omega
      · simp only [h, if_false] <;> omega
  · cases hi with
    | none => simp [sliceBounds, HT.sIx]
    | some i =>
      simp only [sliceBounds, HT.sIx, Option.getD_none, show (1 : Int) > 0 by decide, if_true]
      by_cases h : i < 0
      · simp only [h, if_true] <;> omega
      · simp only [h, if_false] <;> omega
theorem slicePick_cut (its : List Value) (lo hi : Option Int) : slicePick its.toArray lo hi none = ((its.drop (HT.sIx its.length 0 lo)).take (HT.sIx its.length its.length hi - HT.sIx its.length 0 lo)).toArray := by
  obtain ⟨h1, h2, h3⟩ := slice_bounds lo hi its.toArray.size
  unfold slicePick
  rw [h1, h2, h3]
  simp only [sliceRange_one, pick_run, List.size_toArray] <;> rfl
/-- xs[lo:hi] of a list: a new list -/
noncomputable def rSlL (K : PySem.W.Frag) : V → Option Int → Option Int → Hp → VK → Prop := fun x lo hi H Q => ∃ a xs, x = .ref a ∧ SqL K H a xs ∧ ∀ p, H p = none → Q (.ref p) (upd H p (.lst (cutV xs lo hi)))
theorem sl_list : SlR X (rSlL X.K) := by
  intro pins s σ H x v vl vu lo hi sl Q I rx hs pl pu h
  obtain ⟨a, xs, rfl, hx, q⟩ := h
  cases rx
  obtain ⟨its, r, ht, hz⟩ := I.list hx
  have hlen := r.length
  refine ⟨"list", _, slot_list_getitem.lookup, ht.isList.typeIs, ?_⟩
  refine wpAny_getItem_list_slice ht.isList hs pl pu .none (by simp) ?_ (by rw [List.size_toArray] <;> omega)
  rw [slicePick_cut, ← hlen]
  refine ⟨.ref s.heap.objs.size, _, I.laid (t' := s.toks) (o := .lst (cutV xs lo hi)) (fun b ob q => Heap.get?_push_of_some _ q) (Nat.le_refl _) ?_, rfl, q _ (I.hok.fresh (Nat.le_refl _))⟩
  exact ⟨Nat.le_trans (cutV_length xs lo hi) hz, _, 0, (r.drop (HT.sIx xs.length 0 lo)).take (HT.sIx xs.length xs.length hi - HT.sIx xs.length 0 lo), Heap.get?_push_size _ rfl⟩

/-! ### in, not in: flat items -/
noncomputable def flatV : V → Bool
  | .non => true
  | .bl _ => true
  | .int _ => true
  | .str _ => true
  | _ => false
/-- == of flat values -/
noncomputable def eqV : V → V → Bool
  | .non, .non => true
  | .bl a, .bl b => a == b
  | .bl a, .int b => (if a then 1 else 0) == b
  | .int a, .bl b => a == (if b then 1 else 0)
  | .int a, .int b => a == b
  | .str a, .str b => a == b
  | _, _ => false
theorem eqAt_V {A : Around} {s : Shared} {y x : V} {u v : Value} (ry : RelV y u) (rx : RelV x v) (fy : flatV y = true) (fx : flatV x = true) : SeqAt.EqAt A s u v (eqV y x) := by
  cases y with
  | non =>
    cases ry
    cases x with
    | non => cases rx; exact SeqAt.EqAt.same _
    | bl b => cases rx; exact SeqAt.EqAt.none_bool b
    | int b => obtain ⟨t, rfl⟩ := rx; exact SeqAt.EqAt.none_int b t
    | str b => obtain ⟨t, rfl⟩ := rx; exact SeqAt.EqAt.none_str b t
    | _ => exact absurd (show false = true from fx) Bool.false_ne_true
  | bl a =>
    cases ry
    cases x with
    | non => cases rx; exact SeqAt.EqAt.bool_none a
    | bl b => cases rx; exact SeqAt.EqAt.bool_bool a b
    | int b => obtain ⟨t, rfl⟩ := rx; exact SeqAt.EqAt.bool_int a b t
    | str b => obtain ⟨t, rfl⟩ := rx; exact SeqAt.EqAt.bool_str a b t
    | _ => exact absurd (show false = true from fx) Bool.false_ne_true
  | int a =>
    obtain ⟨t', rfl⟩ := ry
    cases x with
    | non => cases rx; exact SeqAt.EqAt.int_none a t'
    | bl b => cases rx; exact SeqAt.EqAt.int_bool a t' b
    | int b => obtain ⟨t, rfl⟩ := rx; exact SeqAt.EqAt.int_int a t' b t
    | str b => obtain ⟨t, rfl⟩ := rx; exact SeqAt.EqAt.int_str a t' b t
    | _ => exact absurd (show false = true from fx) Bool.false_ne_true
  | str a =>
    obtain ⟨t', rfl⟩ := ry
    cases x with
    | non => cases rx; exact SeqAt.EqAt.str_none a t'
    | bl b => cases rx; exact SeqAt.EqAt.str_bool a t' b
    | int b => obtain ⟨t, rfl⟩ := rx; exact SeqAt.EqAt.str_int a t' b t
    | str b => obtain ⟨t, rfl⟩ := rx; exact SeqAt.EqAt.str_str a t' b t
    | _ => exact absurd (show false = true from fx) Bool.false_ne_true
  | _ => exact absurd (show false = true from fy) Bool.false_ne_true
/-- the items' answers, read off the values (a value's own answer does not lean on its token) -/
noncomputable def eqU (x : V) (u : Value) : Bool := match u with
  | .none => eqV .non x
  | .bool b => eqV (.bl b) x
  | .int i _ => eqV (.int i) x
  | .str z _ => eqV (.str z) x
  | _ => false
theorem eqU_of {x y : V} {u : Value} (r : RelV y u) (f : flatV y = true) : eqU x u = eqV y x := by
  cases y with
  | non => cases r; rfl
  | bl b => cases r; rfl
  | int i => obtain ⟨t, rfl⟩ := r; rfl
  | str z => obtain ⟨t, rfl⟩ := r; rfl
  | _ => exact absurd (show false = true from f) Bool.false_ne_true
theorem any_eqU {x : V} : ∀ {xs : List V} {us : List Value}, Vals xs us → xs.all flatV = true → us.any (eqU x) = xs.any fun y => eqV y x
  | _, _, .nil, _ => rfl
  | y :: xs, u :: us, .cons r t, f => by
    rw [List.all_cons, Bool.and_eq_true] at f
    rw [List.any_cons, List.any_cons, eqU_of r f.1, any_eqU t f.2]
theorem mem_eqAt {A : Around} {s : Shared} {x : V} {v : Value} (rx : RelV x v) (fx : flatV x = true) : ∀ {xs : List V} {us : List Value}, Vals xs us → xs.all flatV = true → ∀ u ∈ us, SeqAt.EqAt A s u v (eqU x u)
  | _, _, .nil, _ => fun u hu => by cases hu
  | y :: xs, u :: us, .cons r t, f => fun u' hu => by
    rw [List.all_cons, Bool.and_eq_true] at f
    rcases List.mem_cons.mp hu with rfl | hu
    · rw [eqU_of r f.1]; exact eqAt_V r rx f.1 fx
    · exact mem_eqAt rx fx t f.2 u' hu
noncomputable def inV (x : V) (xs : List V) : Bool := xs.any fun y => eqV y x
/-- x in a list or tuple of flat items -/
noncomputable def rIn (K : PySem.W.Frag) (neg : Bool) : R2 := fun x y H Q => ∃ p xs, y = .ref p ∧ (SqL K H p xs ∨ SqT K H p xs) ∧ flatV x = true ∧ xs.all flatV = true ∧ Q (.bl (if neg then !inV x xs else inV x xs)) H
theorem op_in_seq : OpR X (compareOp .In) (rIn X.K false) := by
  intro pins s σ H x y v u Q I rx ry h
  obtain ⟨p, xs, rfl, hq, fx, fs, q⟩ := h
  cases ry
  rcases hq with hq | hq
  · obtain ⟨its, r, pl, hz⟩ := I.list hq
    refine SeqAt.in_listAt (eqU x) pl.isList (fun w hw => mem_eqAt rx fx r fs w (by simpa using hw)) ⟨.bl _, H, I, rfl, ?_⟩
    rw [show its.toArray.any (eqU x) = its.any (eqU x) by simp, any_eqU r fs]
    exact q
  · obtain ⟨its, r, pl, hz⟩ := I.tuple hq
    refine SeqAt.in_tupleAt (eqU x) pl (fun w hw => mem_eqAt rx fx r fs w (by simpa using hw)) ⟨.bl _, H, I, rfl, ?_⟩
    rw [show its.toArray.any (eqU x) = its.any (eqU x) by simp, any_eqU r fs]
    exact q
theorem op_notIn_seq : OpR X (compareOp .NotIn) (rIn X.K true) := by
  intro pins s σ H x y v u Q I rx ry h
  obtain ⟨p, xs, rfl, hq, fx, fs, q⟩ := h
  cases ry
  rcases hq with hq | hq
  · obtain ⟨its, r, pl, hz⟩ := I.list hq
    refine SeqAt.notIn_listAt (eqU x) pl.isList (fun w hw => mem_eqAt rx fx r fs w (by simpa using hw)) ⟨.bl _, H, I, rfl, ?_⟩
    rw [show its.toArray.any (eqU x) = its.any (eqU x) by simp, any_eqU r fs]
    exact q
  · obtain ⟨its, r, pl, hz⟩ := I.tuple hq
    refine SeqAt.notIn_tupleAt (eqU x) pl (fun w hw => mem_eqAt rx fx r fs w (by simpa using hw)) ⟨.bl _, H, I, rfl, ?_⟩
    rw [show its.toArray.any (eqU x) = its.any (eqU x) by simp, any_eqU r fs]
    exact q

/-! ### len, list(x), tuple(x) of any list or tuple that is read -/
theorem call_len_seq : CallR X (.builtin "len") (fun xs H Q => ∃ p ys, xs = [.ref p] ∧ (SqL X.K H p ys ∨ SqT X.K H p ys) ∧ Q (.int ys.length) H) := by
  intro pins s σ H xs us Q I r h
  obtain ⟨p, ys, rfl, hq, q⟩ := h
  obtain ⟨u, rfl, rx⟩ := vals1 r
  cases rx
  have hn := line63
  rcases hq with hq | hq
  · obtain ⟨its, r', pl, hz⟩ := I.list hq
    have hlen := r'.length
    exact Calls.call_len_list pl.isList (by simp only [List.size_toArray] <;> omega) ⟨.int ys.length, H, I.tok _, ⟨s.toks + 1, by rw [List.size_toArray, hlen]⟩, q⟩
  · obtain ⟨its, r', pl, hz⟩ := I.tuple hq
    have hlen := r'.length
    exact len_tuple pl (by simp only [List.size_toArray] <;> omega) ⟨.int ys.length, H, I.tok _, ⟨s.toks + 1, by rw [List.size_toArray, hlen]⟩, q⟩
theorem call_len_str : CallR X (.builtin "len") (fun xs H Q => ∃ z, xs = [.str z] ∧ z.length ≤ sizeLine ∧ Q (.int z.length) H) := by
  intro pins s σ H xs us Q I r h
  obtain ⟨z, rfl, hz, q⟩ := h
  obtain ⟨u, rfl, t, rfl⟩ := vals1 r
  have hn := line63
  exact len_str (by omega) ⟨.int z.length, H, I.tok _, ⟨_, rfl⟩, q⟩
theorem CallR.or {f : Value} {r r' : List V → Hp → VK → Prop} (h : CallR X f r) (h' : CallR X f r') : CallR X f (fun xs H Q => r xs H Q ∨ r' xs H Q) := by
  intro pins s σ H xs us Q I rs q
  rcases q with q | q
  · exact h pins s σ H xs us Q I rs q
  · exact h' pins s σ H xs us Q I rs q
theorem call_tuple_of : CallR X (.type "tuple") (fun xs H Q => ∃ p ys, xs = [.ref p] ∧ ((SqL X.K H p ys ∧ ∀ l, H l = none → Q (.ref l) (upd H l (.tup ys))) ∨ (SqT X.K H p ys ∧ Q (.ref p) H))) := by
  intro pins s σ H xs us Q I r h
  obtain ⟨p, ys, rfl, h⟩ := h
  obtain ⟨u, rfl, rx⟩ := vals1 r
  cases rx
  rcases h with ⟨hq, q⟩ | ⟨hq, q⟩
  · obtain ⟨its, r', pl, hz⟩ := I.list hq
    have hlen := r'.length
    refine call_tuple_list pl.isList (fun h' kp => ?_) (by simp only [List.size_toArray] <;> omega)
    have I1 : Inv X pins σ H { s with heap := h' } := I.kept (t' := s.toks) kp
    have I2 : Inv X pins σ (upd H h'.objs.size (.tup ys)) { s with heap := h'.push { cls := .type "tuple", data := .seq its.toArray } } :=
      I1.laid (t' := s.toks) (fun b o e => Heap.get?_push_of_some _ e) (Nat.le_refl _) (show ObjOk X.prog X.w _ _ _ (.tup ys) from ⟨hz, its, r', TupD.new _ _⟩)
    exact ⟨.ref h'.objs.size, _, I2, rfl, q _ (I1.hok.fresh (Nat.le_refl _))⟩
  · obtain ⟨its, r', pl, hz⟩ := I.tuple hq
    exact call_tuple_same pl ⟨.ref p, H, I, rfl, q⟩

/-! ### the call of a builtin's method: o.m(..) -/
/-- the value is of that builtin type -/
noncomputable def tyV (K : PySem.W.Frag) (T : String) (x : V) (H : Hp) : Prop := match x with
  | .str _ => T = "str"
  | .int _ => T = "int"
  | .ref p => (T = "list" ∧ ∃ xs, SqL K H p xs) ∨ (T = "tuple" ∧ ∃ o, K.lookup p = some o ∧ o.cls = .type "tuple" ∧ o.dict = none) ∨
      (T = "dict" ∧ ((∃ kvs, H p = some (.dK kvs)) ∨ ∃ kvs, H p = some (.dT kvs))) ∨ (T = "set" ∧ ∃ S n, H p = some (.set S n))
  | _ => False
theorem tyV_is {pins : List (Addr × Obj)} {σ : St} {H : Hp} {s : Shared} {T : String} {x : V} {v : Value} (I : Inv X pins σ H s) (r : RelV x v) (ty : tyV X.K T x H) :
    s.TypeIs v T ∧ ∀ a, v = .ref a → ∃ ob, s.heap.get? a = some ob ∧ ob.dict = none := by
  cases x with
  | str z =>
    obtain ⟨t, rfl⟩ := r
    cases (show T = "str" from ty)
    exact ⟨typeIs_str s z t, fun _ e => nomatch e⟩
  | int i =>
    obtain ⟨t, rfl⟩ := r
    cases (show T = "int" from ty)
    exact ⟨typeIs_int s i t, fun _ e => nomatch e⟩
  | ref p =>
    cases r
    rcases ty with ⟨rfl, xs, hq⟩ | ⟨rfl, o, hk, hc, hd⟩ | ⟨rfl, hk⟩ | ⟨rfl, S, n, hk⟩
    · obtain ⟨its, _, pl, _⟩ := I.list hq
      refine ⟨pl.isList.typeIs, fun a e => ?_⟩
      cases e
      obtain ⟨o, n, e, c, hd, _⟩ := pl
      exact ⟨o, e, hd⟩
    · refine ⟨⟨o, I.kIn p o hk, hc⟩, fun a e => ?_⟩
      cases e
      exact ⟨o, I.kIn _ o hk, hd⟩
    · have z : ∃ o, s.heap.get? p = some o ∧ o.ExactDict := by
        rcases hk with ⟨kvs, hk⟩ | ⟨kvs, hk⟩
        · obtain ⟨_, _, _, _, o, _, _, e, ex, _⟩ := I.hok p _ hk
          exact ⟨o, e, ex⟩
        · obtain ⟨_, _, _, _, o, _, _, e, ex, _⟩ := I.hok p _ hk
          exact ⟨o, e, ex⟩
      obtain ⟨o, e, ex⟩ := z
      refine ⟨⟨o, e, ex.1⟩, fun a e2 => ?_⟩
      cases e2
      exact ⟨o, e, ex.2.1⟩
    · obtain ⟨o, _, _, _, e, ex, _⟩ := I.hok p _ hk
      refine ⟨⟨o, e, ex.1⟩, fun a e2 => ?_⟩
      cases e2
      exact ⟨o, e, ex.2.1⟩
  | _ => exact False.elim ty
noncomputable def tBM0 (K : PySem.W.Frag) (T : String) (r : V → List V → Hp → VK → Prop) (to : TE) : TE := fun σ H Q => to σ H fun x H1 => tyV K T x H1 ∧ r x [] H1 Q
noncomputable def tBM (K : PySem.W.Frag) (T : String) (r : V → List V → Hp → VK → Prop) (to : TE) (t : TA) : TE := fun σ H Q => to σ H fun x H1 => tyV K T x H1 ∧ t σ H1 fun xs H2 => r x xs H2 Q
variable {o e : Expr} {es : List Expr} {to : TE} {t : TA} {name : Str} {apos cpos : Pos} {T id : String} {r : V → List V → Hp → VK → Prop}
theorem pe_bm0 (pa : PlainAttrs T) (slot : Slot T name id) (hty : typeOf (.builtin id) = pure (.type "method_descriptor")) (hm : MtR X id r) (ho : PE X o to)
    (hbase : attributeBase o name X.env (eval o X.env) = eval o X.env := by rfl) (hline : (apos.endLine == cpos.line) = true := by rfl) : PE X (.Call (.Attribute o name apos) [] [] cpos) (tBM0 X.K T r to) := by
  intro pins s σ H Q I h
  (refine wpAny_Call_method0_late hbase hline (thn (ho pins s σ H _ I h) ?_); rintro v s1 ⟨x, H1, I1, r1, ty, q1⟩)
  obtain ⟨h1, h2⟩ := tyV_is I1 r1 ty
  exact ⟨T, id, pa, slot, hty, h1, h2, Calls.callWith_builtin rfl (PySem.evalArgs_none (hm pins s1 σ H1 x [] v [] Q I1 r1 .nil q1))⟩
theorem pe_bm (pa : PlainAttrs T) (slot : Slot T name id) (hty : typeOf (.builtin id) = pure (.type "method_descriptor")) (hm : MtR X id r) (ho : PE X o to) (ha : PA X (e :: es) t)
    (hbase : attributeBase o name X.env (eval o X.env) = eval o X.env := by rfl)
    (hfew : ((backTo cpos (starEach (e :: es) X.env)).all (fun x => !x.1) && (backToKw cpos (keywordEach [] X.env)).all (fun x => x.1.isSome)
      && decide ((e :: es).length + ([] : List Keyword).length + (if ([] : List Keyword).isEmpty then 0 else 1) < 30)) = true := by rfl)
    (hline : (apos.endLine == cpos.line) = true := by rfl) (hs : starEach (e :: es) X.env = (false, eval e X.env) :: starEach es X.env := by rfl) (hplain : (backTo cpos (starEach es X.env)).any (·.1) = false := by rfl) :
    PE X (.Call (.Attribute o name apos) (e :: es) [] cpos) (tBM X.K T r to t) := by
  intro pins s σ H Q I h
  (refine wpAny_Call_method_late hbase hfew hline rfl (thn (ho pins s σ H _ I h) ?_); rintro v s1 ⟨x, H1, I1, r1, ty, q1⟩)
  obtain ⟨h1, h2⟩ := tyV_is I1 r1 ty
  refine ⟨T, id, pa, slot, hty, h1, h2, ?_⟩
  have hA := ha cpos pins s1 σ H1 _ I1 q1
  rw [hs] at hA ⊢
  refine Calls.callWith_builtin (by show (false || (backTo cpos (starEach es X.env)).any (·.1)) = false; rw [hplain] <;> rfl) (Calls.evalArgs_plain ?_)
  (refine thn hA ?_; rintro us s2 ⟨vs, H2, I2, r2, q2⟩; exact hm pins s2 σ H2 x vs v us Q I2 r1 r2 q2)
/- xs.append(e), list.index on a module's tuple .. are MtR facts of 06m -/
end
end L2

namespace L2
open PySem PySem.Spec PyProof.Rows

noncomputable def MtM (X : Cx) (id : String) (r : V → List V → Hp → VK → Prop) : Prop :=
  ∀ (pins : List (Addr × Obj)) (s : Shared) (σ : St) (H : Hp) (x : V) (xs : List V) (v : Value) (us : List Value) (Q : VK), Inv X pins σ H s → RelV x v → Vals xs us → r x xs H Q →
    wpAny (model X.prog X.w) X.A (call (.builtin id) (v :: us)) (EP X pins σ Q) X.xe s

/-! ### lists of values -/
theorem Vals.one : ∀ {x : V} {us : List Value}, Vals [x] us → ∃ u, us = [u] ∧ RelV x u
  | _, _, .cons r .nil => ⟨_, rfl, r⟩
theorem Vals.two : ∀ {x y : V} {us : List Value}, Vals [x, y] us → ∃ u v, us = [u, v] ∧ RelV x u ∧ RelV y v
  | _, _, _, .cons r (.cons q .nil) => ⟨_, _, rfl, r, q⟩
theorem Vals.zero : ∀ {us : List Value}, Vals [] us → us = []
  | _, .nil => rfl
theorem Vals.dropLast {xs : List V} {us : List Value} (h : Vals xs us) : Vals xs.dropLast us.dropLast := by
  induction h with
  | nil => exact .nil
  | cons r t ih =>
    cases t with
    | nil => exact .nil
    | cons q t' => exact .cons r ih
theorem Vals.reverse {xs : List V} {us : List Value} (h : Vals xs us) : Vals xs.reverse us.reverse := by
  induction h with
  | nil => exact .nil
  | cons r t ih => rw [List.reverse_cons, List.reverse_cons]; exact Vals.append ih (.cons r .nil)
theorem Vals.rep {xs : List V} {us : List Value} (h : Vals xs us) : ∀ k : Nat, Vals (List.replicate k xs).flatten (List.replicate k us).flatten
  | 0 => .nil
  | k + 1 => by
    rw [List.replicate_succ, List.replicate_succ, List.flatten_cons, List.flatten_cons]
    exact Vals.append h (Vals.rep h k)
theorem erase_last {α : Type} (l : List α) : l.eraseIdx (l.length - 1) = l.dropLast := by
  induction l with
  | nil => rfl
  | cons a r ih =>
    cases r with
    | nil => rfl
    | cons b r =>
      have e : (a :: b :: r).length - 1 = ((b :: r).length - 1) + 1 := by
        have h1 : (a :: b :: r).length = r.length + 2 := rfl
        have h2 : (b :: r).length = r.length + 1 := rfl
        omega
      rw [e, List.eraseIdx_cons_succ, ih]
      all_goals rfl
theorem foldl_rep (its : List Value) : ∀ (k : Nat) (acc : List Value),
    List.foldl (fun x1 x2 => x1 ++ x2) acc.toArray (List.replicate k its.toArray) = (acc ++ (List.replicate k its).flatten).toArray
  | 0, acc => by simp
  | k + 1, acc => by
    have e : acc.toArray ++ its.toArray = (acc ++ its).toArray := by simp
    have e2 : (acc ++ its) ++ (List.replicate k its).flatten = acc ++ (List.replicate (k + 1) its).flatten := by
      rw [List.replicate_succ, List.flatten_cons, List.append_assoc]
    rw [← e2, ← foldl_rep its k (acc ++ its), ← e, List.replicate_succ, List.foldl_cons]

section
variable {X : Cx} {pins : List (Addr × Obj)} {σ : St} {H : Hp} {s : Shared} {l b : Addr} {xs ys zs : List V}

/-! ### the two steps: a tracked list is rewritten, a new list is laid -/
theorem Inv.lset {its its' : List Value} {n : Nat} {f : Array Value → Array Value} {t' : Nat} (I : Inv X pins σ H s) (hH : H l = some (.lst xs))
    (e : s.heap.get? l = some { cls := .type "list", data := .seq its.toArray n }) (hf : f its.toArray = its'.toArray) (hv : Vals ys its') (hz : ys.length ≤ sizeLine) :
    Inv X pins σ (upd H l (.lst ys)) { s with heap := s.heap.update l (Obj.mapSeq f), toks := t' } := by
  have q := PySem.IsL.update e f
  rw [hf] at q
  refine I.write (x := l) (e := l) (by rw [hH]; exact trivial) (.inl rfl) (fun b' u hb hu => (Heap.get?_update_other s.heap (Obj.mapSeq f) (Ne.symm hb)).trans hu) ⟨_, q⟩ ?_
  exact ⟨hz, its', _, hv, q⟩
theorem Inv.lnew {its : List Value} {t' : Nat} (I : Inv X pins σ H s) (hv : Vals ys its) (hz : ys.length ≤ sizeLine) :
    Inv X pins σ (upd H s.heap.objs.size (.lst ys)) { s with heap := s.heap.push { cls := .type "list", data := .seq its.toArray }, toks := t' } :=
  I.laid (fun _ _ q => Heap.get?_push_of_some _ q) (Nat.le_refl _) ⟨hz, its, 0, hv, Heap.get?_push_size _ rfl⟩
theorem Inv.fresh (I : Inv X pins σ H s) : H s.heap.objs.size = none := I.hok.fresh (Nat.le_refl _)
theorem Inv.lstM (I : Inv X pins σ H s) (hH : H l = some (.lst xs)) : xs.length ≤ sizeLine ∧ ∃ (its : List Value) (n : Nat), Vals xs its ∧ xs.length = its.length ∧ s.heap.get? l = some { cls := .type "list", data := .seq its.toArray n } := by
  obtain ⟨z, its, n, r, e⟩ := I.hok l _ hH
  exact ⟨z, its, n, r, r.length, e⟩

theorem notLongL {n : Nat} (h : n ≤ sizeLine) : Builtin.List.listTooLong n = false := by
  unfold Builtin.List.listTooLong
  exact decide_eq_false (by omega)
end

section
variable {X : Cx}

/-! ### methods -/
noncomputable def rAppend : V → List V → Hp → VK → Prop := fun x vs H Q => ∃ l xs y, x = .ref l ∧ vs = [y] ∧ H l = some (.lst xs) ∧ xs.length < sizeLine ∧ Q .non (upd H l (.lst (xs ++ [y])))
theorem mt_append : MtM X "list.append" rAppend := by
  intro pins s σ H x vs v us Q I rx rv h
  obtain ⟨l, xs, y, rfl, rfl, hH, hz, q⟩ := h
  cases rx
  obtain ⟨u, rfl, ru⟩ := rv.one
  obtain ⟨z, its, n, r, hl, e⟩ := I.lstM hH
  refine call_meets F.slot_list_append ⟨_, e, rfl⟩ F.entry_list_append (F.args_list_append_2 _ _) (PySem.list_append l its.toArray n u (by rw [List.size_toArray]; omega)) ⟨e, ?_⟩
  refine ⟨.non, _, I.lset (its' := its ++ [u]) hH e (by simp) (r.append (.cons ru .nil)) ?_, rfl, q⟩
  rw [List.length_append, List.length_singleton]
  omega

noncomputable def rExtend : V → List V → Hp → VK → Prop := fun x vs H Q => ∃ l b xs zs, x = .ref l ∧ vs = [.ref b] ∧ H l = some (.lst xs) ∧ H b = some (.lst zs) ∧ xs.length + zs.length ≤ sizeLine ∧ Q .non (upd H l (.lst (xs ++ zs)))
theorem mt_extend : MtM X "list.extend" rExtend := by
  intro pins s σ H x vs v us Q I rx rv h
  obtain ⟨l, b, xs, zs, rfl, rfl, hH, hB, hz, q⟩ := h
  cases rx
  obtain ⟨u, rfl, ru⟩ := rv.one
  cases ru
  obtain ⟨z, its, n, r, hl, e⟩ := I.lstM hH
  obtain ⟨z2, its2, n2, r2, hl2, e2⟩ := I.lstM hB
  have hsz : its.toArray.size + its2.toArray.size ≤ sizeLine := by rw [List.size_toArray, List.size_toArray]; omega
  have hlong : ¬ (!its.toArray.isEmpty && Builtin.List.listTooLong (its.toArray.size + its2.toArray.size)) = true := by
    rw [notLongL hsz, Bool.and_false]
    exact Bool.false_ne_true
  refine call_meets F.slot_list_extend ⟨_, e, rfl⟩ F.entry_list_extend (F.args_list_extend_2 _ _)
    (AutoSeq1.list_extend_list_list_0 l its.toArray n b its2.toArray n2 hlong (by rw [List.size_toArray]; omega) (by omega)) ⟨e, e2, ?_⟩
  refine ⟨.non, _, I.lset (its' := its ++ its2) hH e (by simp) (r.append r2) ?_, rfl, q⟩
  rw [List.length_append]
  omega

noncomputable def rPop : V → List V → Hp → VK → Prop := fun x vs H Q => ∃ l xs y, x = .ref l ∧ vs = [] ∧ H l = some (.lst xs) ∧ xs[xs.length - 1]? = some y ∧ Q y (upd H l (.lst xs.dropLast))
theorem mt_pop : MtM X "list.pop" rPop := by
  intro pins s σ H x vs v us Q I rx rv h
  obtain ⟨l, xs, y, rfl, rfl, hH, hy, q⟩ := h
  cases rx
  have hus := rv.zero
  subst hus
  obtain ⟨z, its, n, r, hl, e⟩ := I.lstM hH
  obtain ⟨u, hu, ru⟩ := r.get hy
  have hy' : its.toArray[its.toArray.size - 1]? = some u := by
    show its.toArray[its.length - 1]? = some u
    rw [← Array.getElem?_toList, ← hl]
    exact hu
  refine call_meets F.slot_list_pop ⟨_, e, rfl⟩ F.entry_list_pop (F.args_list_pop_1 _) (MeetsSeq.list_pop_last l its.toArray n u hy' (by rw [List.size_toArray]; omega)) ⟨e, ?_⟩
  refine ⟨y, _, I.lset (its' := its.dropLast) hH e ?_ r.dropLast ?_, ru, q⟩
  · show its.toArray.eraseIdxIfInBounds (its.toArray.size - 1) = its.dropLast.toArray
    rw [List.size_toArray, List.eraseIdxIfInBounds_toArray, erase_last]
  · rw [List.length_dropLast]
    omega




/-! ### list + list, list += list, list * int -/
noncomputable def rCat : R2 := fun x y H Q => ∃ l b xs zs, x = .ref l ∧ y = .ref b ∧ H l = some (.lst xs) ∧ H b = some (.lst zs) ∧ xs.length + zs.length ≤ sizeLine ∧ ∀ p, H p = none → Q (.ref p) (upd H p (.lst (xs ++ zs)))
theorem op_cat : OpR X (binaryOp .Add) rCat := by
  intro pins s σ H x y v u Q I rx ry h
  obtain ⟨l, b, xs, zs, rfl, rfl, hH, hB, hz, q⟩ := h
  cases rx
  cases ry
  obtain ⟨z, its, n, r, hl, e⟩ := I.lstM hH
  obtain ⟨z2, its2, n2, r2, hl2, e2⟩ := I.lstM hB
  refine PySem.P.add_list e e2 ?_ (by rw [List.size_toArray, List.size_toArray]; omega)
  have ea : its.toArray ++ its2.toArray = (its ++ its2).toArray := by simp
  rw [ea]
  exact ⟨.ref _, _, I.lnew (t' := s.toks) (r.append r2) (by rw [List.length_append]; omega), rfl, q _ I.fresh⟩
/-- a list times an int (a negative one is nothing) -/
noncomputable def rRep : R2 := fun x y H Q => ∃ l k xs, x = .ref l ∧ y = .int k ∧ H l = some (.lst xs) ∧ -(2 ^ 63) ≤ k ∧ k < 2 ^ 63 ∧ xs.length * k.toNat ≤ sizeLine ∧
  ∀ p, H p = none → Q (.ref p) (upd H p (.lst (List.replicate k.toNat xs).flatten))
theorem len_rep {α : Type} (xs : List α) (k : Nat) : (List.replicate k xs).flatten.length = k * xs.length := by
  induction k with
  | zero => simp
  | succ k ih => rw [List.replicate_succ, List.flatten_cons, List.length_append, ih, Nat.succ_mul, Nat.add_comm]
theorem op_rep : OpR X (binaryOp .Mult) rRep := by
  intro pins s σ H x y v u Q I rx ry h
  obtain ⟨l, k, xs, rfl, rfl, hH, h1, h2, hz, q⟩ := h
  cases rx
  obtain ⟨t, rfl⟩ := ry
  obtain ⟨z, its, n, r, hl, e⟩ := I.lstM hH
  have hlen : its.toArray.size * k.toNat ≤ sizeLine := by rw [List.size_toArray, ← hl]; exact hz
  have hcap : ¬ its.toArray.size * k.toNat > (2 ^ 63 - 1) / 8 := by
    have : (sizeLine : Nat) ≤ (2 ^ 63 - 1) / 8 := by decide
    omega
  have hfit : ¬ (!Builtin.List.listFitsIndex k) = true := by
    rw [fitsIndex_both h1 h2]
    exact Bool.false_ne_true
  have hlong : ¬ Builtin.List.listTooLong (its.toArray.size * k.toNat) = true := by
    rw [notLongL hlen]
    exact Bool.false_ne_true
  have hnew : List.foldl (fun x1 x2 => x1 ++ x2) #[] (List.replicate (if its.toArray.isEmpty = true then 0 else k.toNat) its.toArray) = (List.replicate k.toNat its).flatten.toArray := by
    have f0 : ∀ m : Nat, List.foldl (fun x1 x2 => x1 ++ x2) #[] (List.replicate m its.toArray) = (List.replicate m its).flatten.toArray := fun m => by
      have := foldl_rep its m []
      rw [List.nil_append] at this
      exact this
    rw [f0]
    cases its with
    | nil => simp
    | cons a r' => rw [if_neg (by simp)]
  refine wpAny_binaryOp_repeat_ref (T := "list") (U := "int") (by decide) ⟨_, e, rfl⟩ (fun s' => typeIs_int s' k t) noFill_list_mul F.fills_int_mul F.slot_int_rmul repeat_list F.slot_int_index.lookup
    (call_meets F.slot_int_rmul (typeIs_int s k t) F.entry_int_rmul (F.args_int_rmul_2 _ _) (int___rmul___int_list k t l its.toArray n)
      ⟨e, rfl, ⟨_, e, rfl⟩, call_meets F.slot_list_mul ⟨_, e, rfl⟩ F.entry_list_mul (F.args_list_mul_2 _ _) (AutoListH.list___mul___list_int_3 l its.toArray n k t hfit hcap hlong) ⟨e, ?_⟩⟩)
  rw [hnew]
  exact ⟨.ref _, _, I.lnew (t' := s.toks) (r.rep k.toNat) (by rw [len_rep, Nat.mul_comm]; exact hz), rfl, q _ I.fresh⟩

/-! ### del xs[i] -/
end

/-! ### xs[a:b] = ys -/
section
variable {prog : Program} {w : World} {A : Around} {E : Value → Shared → Prop} {s : Shared}
end

section
variable {X : Cx}
end
end L2

namespace Att
open PySem PySem.W PySem.Calls PyProof.Rows

/-! ### the script -/
theorem ints_of_wellAll {P : Params} {h : Heap} : ∀ (ns : List Int) (vs : List Value), WellAll P h vs (ns.map WData.int) → IntsAre vs ns := by
  intro ns
  induction ns with
  | nil =>
    intro vs w
    rw [List.map_nil] at w
    cases w
    exact .nil
  | cons n ns ih =>
    intro vs w
    rw [List.map_cons] at w
    cases w with
    | cons a b =>
      cases a
      exact .cons _ _ (ih _ b)

theorem script_of {l : OpenLaw} {n : Nat} (hn : l.most = some n) {P : Params} {h : Heap} {args : List WData} {vals : List Value}
    (hpre : l.row.toRowW.claim.pre args = true) (hwl : WellAll P h vals args) :
    ∃ a vs ns, vals = [Value.ref a] ∧ args = [WData.list (ns.map WData.int)] ∧ h.get? a = some { cls := .type "list", data := .seq vs.toArray } ∧ IntsAre vs ns ∧ ns.length ≤ n := by
  have hsh : WShape.hasAll [] args [.list .int] = true := (pre_splitW hpre).1
  have hc : l.pre.holds [] { args := args } = true := (pre_splitW hpre).2
  obtain ⟨d, r, rfl, h1, h2⟩ := hasAllW_cons hsh
  obtain rfl := hasAllW_nil h2
  obtain ⟨xs, rfl, h3⟩ := hasW_list h1
  obtain ⟨ns, rfl⟩ := items_int h3
  have hlen : ns.length ≤ n := by
    unfold OpenLaw.pre at hc
    have h4 : (WTm.not (.lt (.lit (.int (n : Int))) (.len (.arg 0)))).holds [] { args := [.list (ns.map .int)] } = true := by
      have h4 := (holds_andW hc).1
      rw [hn] at h4
      exact h4
    have h5 := condW_of h4 (w_not (w_lt w_lit (w_len_list (w_arg rfl))))
    rw [List.length_map] at h5
    refine Nat.le_of_not_lt fun q => ?_
    have q' : (n : Int) < ((ns.length : Nat) : Int) := by omega
    first
      | (rw [decide_eq_true q'] at h5; exact absurd h5 (by decide))
      | (simp at h5; omega)
  cases hwl with
  | cons w1 w2 =>
    cases w2
    cases w1 with
    | list ho hall => exact ⟨_, _, ns, rfl, rfl, ho, ints_of_wellAll ns _ hall, hlen⟩

theorem post_true (l : OpenLaw) (args : List WData) : l.row.toRowW.claim.post args (.bool true) args = true :=
  postW_of (r := l.row.toRowW) (X := (true == true))
    (show WShape.has [] (.bool true) .bool = true by first | rfl | decide | simp [WShape.has, WShape.arms, WShape.armsAll])
    (show (WTm.eq .res (.lit (.bool true))).value [] { args := args, res := some (.bool true), after := args } = some (.bool (true == true)) from w_eq_bool (w_res rfl) w_lit) rfl

/-! ### the attachment: holds_open's last premise (the goal 'hc' behind k_head) from a wpAny of the law's body -/

/-- the same from a codeAny of the CALL (for a layer whose function contracts speak of calls) -/
theorem attach_call {l : OpenLaw} {n : Nat} {q : Program} {loose : List Str} {XP : (Str → Option Value) → Heap → Prop} {YP : World → Heap → Prop} {d : DefRec}
    (hn : l.most = some n) (hdf : d.params.defaults = [])
    (call : ∀ (w : World) (s₀ s₁ : Shared) (mg mb : Str → Option Value) (fa : Addr) (o : Obj) (pm cd doc : Value) (a : Addr) (vs : List Value) (ns : List Int),
      Ground q loose [] XP w s₀ mg mb s₁.heap → YP w s₁.heap →
      s₁.heap.get? fa = some o → o.data = .func (docDef d.name d.params d.body d.scope pm cd doc) → s₁.heap.CodeRec cd d.name → mg d.name = some (.ref fa) →
      s₁.heap.get? a = some { cls := .type "list", data := .seq vs.toArray } → IntsAre vs ns → ns.length ≤ n → s₁.gens = #[] →
      codeAny (model l.prog w) callerA (.call (.ref fa) ⟨[.ref a], []⟩) (fun r s' => r = .ok (.ret (.bool true)) ∧ OldK s₁.heap s'.heap ∧ s'.os = s₁.os ∧ AllBare s'.gens) s₁) :
    WalkO q loose XP YP l.row.toRowW d [] (fun f vs => PySem.call f vs) := by
  intro w s₀ s₁ mg mb G Y fa o pm cd doc dV kV ho hd hcd hD hmg hg args vals as hpre hlay hrd hwl hlo
  obtain rfl : dV = .none := Dflts.none hD hdf
  obtain rfl : kV = .none := Dflts.noKw hD
  obtain ⟨a, vs, ns, rfl, rfl, hobj, hints, hlen⟩ := script_of hn hpre hwl
  refine enter_call (codeAny_mono (call w s₀ s₁ mg mb fa o pm cd doc a vs ns G Y ho (fd_plain hd) hcd hmg hobj hints hlen hg) fun r s' hq => ?_)
  obtain ⟨rfl, h2, h3, h4⟩ := hq
  exact ⟨.inl ⟨.bool true, .bool true, [], rfl, fun _ => rfl, .bool true, post_true l _, fun _ => ⟨List.Pairwise.nil, fun _ hm => (nomatch hm)⟩⟩, h2, h3, h4⟩


/-! ### rules over ANY heap (no ledger) from facts about the written part K: the library's own take a ledger (News) for what they write -/
section
variable {prog : Program} {w : World} {A : Around} {E : Value → Shared → Prop} {s : Shared} {K : Frag}





/-! the whole heap as the ledger: makes every rule that writes through a ledger a rule over any heap -/

end
end Att

namespace L2
open PySem PySem.Spec PyProof.Rows

theorem vals_ints : ∀ {vs : List Value} {ns : List Int}, IntsAre vs ns → Vals (ns.map V.int) vs
  | _, _, .nil => .nil
  | _, _, .cons n t h => .cons ⟨t, rfl⟩ (vals_ints h)

/-- nothing is tracked but the script, known to the object (or it is an object of the module) -/
noncomputable def Only (H : Hp) : Prop := ∀ b, H b = none ∨ ∃ o xs, H b = some (.frz o (.lst xs))

/-- THE HEAD: the law's promise, at the heap behind the top. F, the promise of the law's def, may use that base is part of the heap (so K.In base, base.Ns mainGlobals mg stand in Mod) -/
theorem law_call {P : Program} {w : World} {K : PySem.W.Frag} {mg mb : Str → Option Value} {CX : CXT} {k : Nat} {fa a : Addr} {fd : FuncData} {x : Str} {sp : Sp} {s₁ : Shared} {vs : List Value} {ns : List Int}
    (KX : K.In s₁.heap) (hns : s₁.heap.Ns mainGlobals mg) (hb : s₁.heap.Ns builtinsNs mb) (hbb : ∀ x : Str, x ≠ "__name__" → mb x = bootBuiltins x) (hlim : s₁.heap.NoLimit) (hg : s₁.gens = #[])
    (ha : s₁.heap.get? a = some { cls := .type "list", data := .seq vs.toArray }) (hi : IntsAre vs ns) (hl : ns.length ≤ sizeLine) (hr : Room k callerA)
    (F : ∀ base : Heap, K.In base → base.Ns mainGlobals mg → FnOk P w K mg base CX k fa fd [x] sp) (hbind : ∀ (s : Shared) (u : Value), BindsTo s fd ⟨[u], []⟩ [(x, u)])
    (hsp : ∀ H : Hp, Only H → SqL K H a (ns.map V.int) → sp [.ref a] H (fun v _ => v = .bl true) fun _ _ _ => False)
    (hCX : ∀ H e s', CX [] H s₁ (fun _ _ _ => False) e s' → False) :
    codeAny (model P w) callerA (.call (.ref fa) ⟨[.ref a], []⟩) (fun r s' => r = .ok (.ret (.bool true)) ∧ OldK s₁.heap s'.heap ∧ s'.os = s₁.os ∧ AllBare s'.gens) s₁ := by
  have rv := vals_ints hi
  have lenV := hi.length
  -- from an abstract heap in which nothing but the script may be tracked
  have core : ∀ H : Hp, Only H → SqL K H a (ns.map V.int) → HOk P w H s₁.heap → (∀ b, H b ≠ none → b = a) → (H a ≠ none → K.lookup a = none) →
      codeAny (model P w) callerA (.call (.ref fa) ⟨[.ref a], []⟩) (fun r s' => r = .ok (.ret (.bool true)) ∧ OldK s₁.heap s'.heap ∧ s'.os = s₁.os ∧ AllBare s'.gens) s₁ := by
    intro H hO hS hok hA hK
    have base_of : ∀ {b : Addr} {o : Obj}, s₁.heap.get? b = some o → H b = none → (hidT s₁.heap H).get? b = some o := fun e n => hidT_get e n
    have noA : ∀ {b : Addr} {o : Obj} {es : Array DictEntry} {ep : Nat}, s₁.heap.get? b = some o → o.data = .dict es ep → H b = none := fun {b o es ep} e d => by
      cases q : H b with
      | none => rfl
      | some u =>
        have e' : b = a := hA b (by rw [q]; simp)
        subst e'
        rw [ha] at e; cases e
        have d' : Data.seq vs.toArray _ = Data.dict es ep := d
        cases d'
    have nsK : ∀ {b : Addr} {m : Str → Option Value}, s₁.heap.Ns b m → (hidT s₁.heap H).Ns b m := fun {b m} ⟨o, es, ep, e, d, r⟩ => ⟨o, es, ep, base_of e (noA e d), d, r⟩
    have hKb : K.In (hidT s₁.heap H) := fun b o e => base_of (KX b o e) (by
      cases q : H b with
      | none => rfl
      | some u =>
        have e' : b = a := hA b (by rw [q]; simp)
        subst e'
        rw [hK (by rw [q]; simp)] at e; cases e)
    have hM : Mod K mg (hidT s₁.heap H) := ⟨hKb, nsK hns, ⟨mb, nsK hb, hbb⟩, let ⟨mc, h1, h2⟩ := hlim; ⟨mc, nsK h1, h2⟩⟩
    have e0 : Env0 P w K mg (hidT s₁.heap H) callerA [] s₁ H := ⟨rfl, hM, fun b o e => of_hidT e, Nat.le_of_eq (hidT_size _ _), trivial, fun b hb => absurd (show b ∈ ([] : List Addr) from hb) (by simp), hok, .of_eq hg⟩
    refine codeAny_mono ((F _ hKb (nsK hns)).run callerA [] s₁ H ⟨[.ref a], []⟩ [.ref a] [.ref a] _ _ hr e0 (hbind s₁ (.ref a)) (.cons rfl .nil) (hsp H hO hS)) fun r s' h => ?_
    cases r with
    | error e => exact (hCX H e s' h).elim
    | ok fl =>
      cases fl with
      | next => exact False.elim h
      | brk => exact False.elim h
      | cont => exact False.elim h
      | ret u =>
        obtain ⟨v, H', os, bare, un, hok', r', q⟩ := h
        have q' : v = .bl true := q
        subst q'
        obtain rfl : u = Value.bool true := r'
        refine ⟨rfl, OldK.of_keep fun b o e => ?_, os, bare⟩
        cases q : H b with
        | none => exact un.keep b o e q (by intro z; exact absurd (show b ∈ ([] : List Addr) from z) (by simp)) (by simp)
        | some u =>
          rcases hO b with z | ⟨ob, xs, z⟩
          · rw [q] at z; cases z
          · have z2 := un.frzs b ob _ z
            obtain ⟨e1, _⟩ := hok b _ z
            obtain ⟨e2, _⟩ := hok' b _ z2
            rw [e] at e1; cases e1
            exact e2
  cases hk : K.lookup a with
  | some o =>
    -- the script is one of the module's own objects
    have e := KX a o hk
    rw [ha] at e
    cases e
    refine core (fun _ => none) (fun _ => .inl rfl) (.inr ⟨_, vs.toArray, _, hk, rfl, rfl, rfl, by rw [List.size_toArray, lenV]; exact hl, by simpa using rv⟩) (fun b u z => by have z' : (none : Option HO) = some u := z; cases z') (fun b z => absurd rfl z) fun z => absurd rfl z
  | none =>
    refine core (fun b => if b = a then some (.frz { cls := .type "list", data := .seq vs.toArray } (.lst (ns.map V.int))) else none) (fun b => ?_) (.inl (.inr ⟨{ cls := .type "list", data := .seq vs.toArray }, if_pos rfl⟩)) (fun b u z => ?_) (fun b z => ?_) fun _ => hk
    · by_cases hb : b = a
      · exact .inr ⟨_, _, if_pos hb⟩
      · exact .inl (if_neg hb)
    · by_cases hb : b = a
      · have z' := (if_pos hb).symm.trans z
        cases z'
        subst hb
        exact ⟨ha, by rw [List.length_map]; exact hl, vs, _, rv, ha⟩
      · have z' := (if_neg hb).symm.trans z
        cases z'
    · by_cases hb : b = a
      · exact hb
      · exact absurd (if_neg hb) z
end L2

namespace L2
open PySem PySem.Spec PyProof.Rows


/-- the goal that k_head leaves (case hc), from the law's promise. F gives the function object fd (K's own) once, then the promise over every base -/
theorem walk_of {l : PySem.W.OpenLaw} {n k : Nat} {q : Program} {loose : List Str} {XP : (Str → Option Value) → Heap → Prop} {YP : World → Heap → Prop} {d : DefRec} {K : Params → PySem.W.Frag} {CX : World → CXT} {sp : World → Sp} {x : Str}
    (hn : l.most = some n) (hn2 : n ≤ sizeLine) (hdf : d.params.defaults = []) (hr : Room k callerA)
    (hY : ∀ (w : World) (h : Heap), YP w h → (K w.params).In h)
    (F : ∀ (w : World) (mg : Str → Option Value) (fa : Addr) (h : Heap), (K w.params).In h → h.Ns mainGlobals mg → mg d.name = some (.ref fa) →
      ∃ fd : FuncData, (∀ (s : Shared) (u : Value), BindsTo s fd ⟨[u], []⟩ [(x, u)]) ∧
        ∀ base : Heap, (K w.params).In base → base.Ns mainGlobals mg → FnOk l.prog w (K w.params) mg base (CX w) k fa fd [x] (sp w))
    (hsp : ∀ (w : World) (H : Hp) (a : Addr) (ns : List Int), ns.length ≤ n → Only H → SqL (K w.params) H a (ns.map V.int) → sp w [.ref a] H (fun v _ => v = .bl true) fun _ _ _ => False)
    (hCX : ∀ (w : World) (H : Hp) (s : Shared) (e : Value) (s' : Shared), CX w [] H s (fun _ _ _ => False) e s' → False) :
    PySem.W.WalkO q loose XP YP l.row.toRowW d [] (fun f vs => PySem.call f vs) := by
  refine Att.attach_call hn hdf fun w s₀ s₁ mg mb fa o pm cd doc a vs ns G Y ho hd hcd hmg hobj hints hlen hg => ?_
  have KX := hY w _ Y
  obtain ⟨fd, hb, hF⟩ := F w mg fa _ KX G.T.g hmg
  exact law_call KX G.T.g G.T.b G.T.builtins G.T.nolimit hg hobj hints (Nat.le_trans hlen hn2) hr hF hb (fun H hO hS => hsp w H a ns hlen hO hS) fun H e s' => hCX w H s₁ e s'
end L2

/- THE LAST THEOREM (shape; LID, My.* are yours):
   My.Adr: a structure of the addresses that your layer names (classes, functions); My.Txt K t: a structure (Prop) of the equations over K;
   My.txt_mk : {K} {implicit addresses ..} (e1 : nsIn K mainGlobals "law" = some (some (.ref f))) (e2 : K.lookup f = some ⟨oc, od, .func (fnOf "law" "law" params body scope dV kV doc pm an cdv ct), sl⟩) (e3 : codeIn K cdv "law" = true) .. : ∃ t, My.Txt K t

set_option maxHeartbeats 0 in
theorem PySem.Challenge.cw_LID_holds : PySem.Challenge.rw_LID.Holds := by
  w_on; o_law; k_head; (case hw => w_witness2)
  k_fill
  refine L2.walk_of (l := PySem.Challenge.rw_LID) (n := 63) (k := 40) (x := "script") (CX := fun w => ..) (sp := fun _ => My.sp_law) rfl (by decide) rfl ⟨rfl, by decide, by decide⟩ (fun w h Y => PySem.W.kIn_of Y) ?F ?S ?C
  case F =>
    intro w mg fa h KX G hmg
    have T : ∃ t, My.Txt (L2.KOf KX) t := by
      dsimp only [L2.KOf]                          -- K must stand as «<heap const> w.params» for k_is
      refine' My.txt_mk ?e1 ?e2 ?e3 ..
      (case e1 => PySem.W.k_is)                    -- in the order: a name -> its address -> its object -> its parts
      (case e2 => PySem.W.k_is)
      ..
    obtain ⟨t, T⟩ := T
    have e0 := hmg.symm.trans (PySem.W.mg_of KX G T.law)
    cases e0                                       -- fa is the law's own address
    exact ⟨_, fun s u => .of_eq rfl, fun base kb nb => My.law_fn T kb nb⟩     -- if «.of_eq rfl» comes too early: refine' ⟨_, ?b, fun base kb nb => My.law_fn T kb nb⟩; exact fun s u => .of_eq rfl
  case S => exact fun w H a ns hl hO hS => ..
  case C => exact ..
(the tactic k_is has no namespace: write k_is) -/

/-! SHORT WORDS over the layer: a def of the text, its body, what a loop and a test want. -/
namespace L2
open PySem PySem.Spec PyProof.Rows

/-! ### the text by places -/
noncomputable def defArgs (s : Stmt) : Arguments := match s with
  | .FunctionDef _ a _ _ _ _ _ _ _ _ => a
  | _ => { posonlyargs := [], args := [], vararg := none, kwonlyargs := [], kw_defaults := [], kwarg := none, defaults := [] }
noncomputable def defBody (s : Stmt) : List Stmt := match s with
  | .FunctionDef _ _ b _ _ _ _ _ _ _ => b
  | _ => []
noncomputable def defScope (s : Stmt) : Scope := match s with
  | .FunctionDef _ _ _ _ _ _ sc _ _ _ => sc
  | _ => { kind := .function, names := [], isGenerator := false, isCoroutine := false }

/-! ### no exception leaves a def -/
noncomputable abbrev CX0 : CXT := fun _ _ _ _ _ _ => False
noncomputable abbrev E0 : XK := fun _ _ _ => False
theorem pass0 {X : Cx} : Passes CX0 X E0 := fun _ _ _ _ _ _ _ h => h.elim

/-! ### a def (or method) of the text as it stands behind the top -/
structure Fun (K : PySem.W.Frag) (x qual : Str) (st : Stmt) (f : Addr) (fd : FuncData) : Prop where
  ex : ∃ (oc : Value) (od : Option Addr) (kV doc pm : Value) (an : Option Addr) (cdv ct : Value) (osl : Array (Option Value)),
    fd = PySem.W.fnOf x qual (defArgs st) (defBody st) (defScope st) .none kV doc pm an cdv ct ∧ K.lookup f = some ⟨oc, od, .func fd, osl⟩ ∧ PySem.W.codeIn K cdv qual = true
  kp : PySem.W.keepIn K (.ref f) = true
section
variable {P : Program} {w : World} {K : PySem.W.Frag} {mg : Str → Option Value} {base : Heap}
/-- THE RULE for a def: its body as a term of rules, and the reading of that term -/
theorem Fun.ok {x qual : Str} {st : Stmt} {f : Addr} {fd : FuncData} {N ps : List Str} {k : Nat} {sp : Sp} (F : Fun K x qual st f fd) (S : FnScope N ps (defScope st)) (len : ∀ vs H Q E, sp vs H Q E → vs.length = ps.length)
    (hbody : ∀ (cdv : Value) (A : Around) (outer : List Env) (s : Shared) (H : Hp) (vs : List V) (Q : VK) (E : XK), Room k (A.deeper (envOfC qual (defScope st) s.heap.objs.size f cdv)) → sp vs H Q E →
      ∃ t, PSs (cxOf CX0 P w K mg base N qual (defScope st) f cdv A outer s H E).nox (defBody st) t ∧ t { nx := fun _ H' => Q .non H', rt := Q } (start N vs) H) : FnOk P w K mg base CX0 (k + 1) f fd ps sp := by
  obtain ⟨oc, od, kV, doc, pm, an, cdv, ct, osl, rfl, lk, hcd⟩ := F.ex
  refine fn_of lk hcd S len fun A outer s H vs Q E hr hsp => ?_
  obtain ⟨t, h, q⟩ := hbody cdv A outer s H vs Q E hr hsp
  exact ⟨t, h.nox, q⟩
/-- how its arguments bind (no defaults): h is «fun _ _ _ _ _ _ us hl => match us, hl with | [_, _], _ => rfl», one _ a parameter -/
theorem Fun.binds {x qual : Str} {st : Stmt} {f : Addr} {fd : FuncData} {ps : List Str} (F : Fun K x qual st f fd)
    (h : ∀ (kV doc pm : Value) (an : Option Addr) (cdv ct : Value) (us : List Value), us.length = ps.length → bindArgs (PySem.W.fnOf x qual (defArgs st) (defBody st) (defScope st) .none kV doc pm an cdv ct) ⟨us, []⟩ = pure (ps.zip us)) : Binds K fd ps [] := by
  obtain ⟨oc, od, kV, doc, pm, an, cdv, ct, osl, rfl, lk, hcd⟩ := F.ex
  exact .all (h kV doc pm an cdv ct)
end
theorem hu_of {A : Around} {k : Nat} (hr : Room k A) : A.units + 1 < cLine := Nat.lt_of_le_of_lt (Nat.add_le_add_left (by decide : 1 ≤ 64) _) hr.units

/-! ### expressions in short: the name that stands in the i-th slot -/
section
variable {X : Cx}
end

/-! ### tests -/

/-! ### heaps -/
/-- all that was tracked is as it was -/
noncomputable def Same (H H' : Hp) : Prop := ∀ b o, H b = some o → H' b = some o
theorem Same.refl (H : Hp) : Same H H := fun _ _ h => h
theorem Same.trans {H H1 H2 : Hp} (a : Same H H1) (b : Same H1 H2) : Same H H2 := fun c o h => b c o (a c o h)
theorem Same.free {H H' : Hp} (e : Same H H') {l : Addr} (h : H' l = Option.none) : H l = Option.none := by
  cases q : H l with
  | none => rfl
  | some o =>
    rw [e l o q] at h
    cases h
theorem Same.seq {K : PySem.W.Frag} {H H' : Hp} {a : Addr} {xs : List V} (e : Same H H') (h : SqL K H a xs) : SqL K H' a xs := by
  rcases h with (h | ⟨o, h⟩) | h
  · exact .inl (.inl (e _ _ h))
  · exact .inl (.inr ⟨o, e _ _ h⟩)
  · exact .inr h

end L2

namespace L2
open PySem PySem.Spec PyProof.Rows
section
variable {X : Cx}
end
/-! ### a dict's pairs: keys that differ -/
section
variable {κ : Type} [DecidableEq κ]
end
end L2


/-! ### list comprehensions over the hand layer -/
namespace L2
open PySem PySem.Spec PyProof.Rows

theorem loop_go {prog : Program} {w : World} {A : Around} {R : Result → Shared → Prop} {s : Shared} {elt target iter : Expr} {ifs : List Expr} {scope : Scope} {pos : Pos} {it acc : Value} {env : Env} (I : Nat → Shared → Prop)
    (turn : ∀ n s, I n s → wpAny (model prog w) A (pyNext it) (fun r s₁ => match r with
      | none => R (.ok .next) s₁
      | some v => wpAny (model prog w) A (letOwnedTupleGo target it v) (fun _ s₁ => wpAny (model prog w) A (assign target env v) (fun _ s₂ =>
          wpAny (model prog w) A (forIn ifs true fun c r => if r = true then do let ok ← isTrue c env (eval c env); pure (ForInStep.yield ok) else pure (ForInStep.yield r)) (fun ok s₃ =>
            if ok = true then wpAny (model prog w) A (eval elt env) (fun x s₄ =>
              wpAny (model prog w) A (call (.builtin "list.append") [acc, x]) (fun _ s₅ => ∃ m, m < n ∧ I m s₅) (fun _ _ => False) s₄) (fun _ _ => False) s₃
            else ∃ m, m < n ∧ I m s₃) (fun _ _ => False) s₂) (fun _ _ => False) s₁) (fun _ _ => False) s₁) (fun _ _ => False) s)
    (n : Nat) (h : I n s) :
    codeAny (model prog w) A (.compLoop (.ListComp elt [⟨target, iter, ifs, 0⟩] scope pos) 0 it acc env) R s := by
  refine codeAny_loop rfl I (fun n s hI => ?_) n h
  show wpAny _ A ((compTurn (.ListComp elt [⟨target, iter, ifs, 0⟩] scope pos) 0 it acc env).onRaise (fun x => do noteFrame x env; theTreesLotGoes x)) _ _ s
  refine wpAny_noted ?_
  rw [compTurn_list]
  refine wpAny_bind (wpAny_standAt (wpAny_bind (wpAny_mono (turn n s hI) (fun r s₁ h₁ => ?_) fun _ _ h' => h'.elim)))
  cases r with
  | none => exact wpAny_pure h₁
  | some v =>
    refine wpAny_bind (wpAny_mono h₁ (fun _ s₂ h₂ => ?_) fun _ _ h' => h'.elim)
    refine wpAny_bind (wpAny_mono h₂ (fun _ s₂ h₂ => wpAny_bind (wpAny_mono h₂ (fun ok s₃ h₃ => ?_) fun _ _ h' => h'.elim)) fun _ _ h' => h'.elim)
    cases ok with
    | false => exact wpAny_pure ⟨rfl, h₃⟩
    | true =>
      exact wpAny_bind (wpAny_bind (wpAny_mono h₃ (fun x s₄ h₄ => wpAny_bind (wpAny_mono h₄ (fun _ s₅ h₅ => wpAny_pure (wpAny_pure ⟨rfl, h₅⟩)) fun _ _ h' => h'.elim)) fun _ _ h' => h'.elim))

/-- the cells that a block closes over -/
noncomputable def clOf (env : Env) : List (Str × NameKind) → List (Str × Addr) → List (Str × Addr)
  | [], cs => cs
  | (x, k) :: r, cs => clOf env r (if (k == .free) = true then (x, (env.cells.lookup x).getD 0) :: cs else cs)
theorem cellOf_some {env : Env} {x : Str} {c : Addr} (h : env.cells.lookup x = some c) : cellOf env x = pure c := by
  unfold cellOf; rw [h]
theorem closure_is {scope : Scope} {env : Env} (h : ∀ y ∈ scope.names, y.2 = .free → ∃ c, env.cells.lookup y.1 = some c) : closureFor scope env = pure (clOf env scope.names []) := by
  have key : ∀ (l : List (Str × NameKind)) (cs : List (Str × Addr)), (∀ y ∈ l, y.2 = .free → ∃ c, env.cells.lookup y.1 = some c) →
      (forIn l cs fun (y : Str × NameKind) r => if (y.2 == NameKind.free) = true then do let c ← cellOf env y.1; pure (ForInStep.yield ((y.1, c) :: r)) else pure (ForInStep.yield r) : Sem (List (Str × Addr))) = pure (clOf env l cs) := by
    intro l
    induction l with
    | nil => intro cs _; rfl
    | cons y r ih =>
      intro cs hl
      obtain ⟨x, k⟩ := y
      rw [List.forIn_cons]
      by_cases hk : k = .free
      · subst hk
        obtain ⟨c, hc⟩ := hl (x, .free) List.mem_cons_self rfl
        have e : ((NameKind.free == NameKind.free) : Bool) = true := rfl
        simp only [e, if_true, cellOf_some hc, pure_bind]
        rw [ih _ fun z hz => hl z (List.mem_cons_of_mem _ hz)]
        show _ = pure (clOf env r (if (NameKind.free == NameKind.free) = true then _ else _))
        rw [e, if_pos rfl, hc] <;> rfl
      · have e : (k == NameKind.free) = false := by simpa using hk
        simp only [e, Bool.false_eq_true, if_false, pure_bind]
        rw [ih _ fun z hz => hl z (List.mem_cons_of_mem _ hz)]
        show _ = pure (clOf env r (if (k == NameKind.free) = true then _ else _))
        rw [e, if_neg Bool.false_ne_true]
  have e : closureFor scope env = ((forIn scope.names ([] : List (Str × Addr)) fun (y : Str × NameKind) r => if (y.2 == NameKind.free) = true then do let c ← cellOf env y.1; pure (ForInStep.yield ((y.1, c) :: r)) else pure (ForInStep.yield r) : Sem (List (Str × Addr))) >>= fun cs => pure cs) := rfl
  rw [e, key scope.names [] h]
  rfl
theorem clOf_lookup {env : Env} {x : Str} {c : Addr} : ∀ {l : List (Str × NameKind)} {cs : List (Str × Addr)}, (∀ y ∈ l, y.2 = .free → ∃ c, env.cells.lookup y.1 = some c) → (∀ x c, cs.lookup x = some c → env.cells.lookup x = some c) →
    (clOf env l cs).lookup x = some c → env.cells.lookup x = some c
  | [], _, _, h, e => h x c e
  | (y, k) :: r, cs, hl, h, e => by
    refine clOf_lookup (l := r) (fun z hz => hl z (List.mem_cons_of_mem _ hz)) (fun x c e => ?_) e
    by_cases hk : k = .free
    · subst hk
      obtain ⟨d, hd⟩ := hl (y, .free) List.mem_cons_self rfl
      rw [if_pos (show (NameKind.free == NameKind.free) = true from rfl), List.lookup_cons] at e
      cases hx : x == y with
      | true => rw [hx, hd] at e; cases e; rw [eq_of_beq hx]; exact hd
      | false => rw [hx] at e; exact h x c e
    · rw [if_neg (by simpa using hk)] at e; exact h x c e
theorem clOf_has {env : Env} {x : Str} : ∀ {l : List (Str × NameKind)} {cs : List (Str × Addr)}, ((∃ c, cs.lookup x = some c) ∨ (x, NameKind.free) ∈ l) → ∃ c, (clOf env l cs).lookup x = some c
  | [], _, h => by
    rcases h with h | h
    · exact h
    · simp at h
  | (y, k) :: r, cs, h => by
    refine clOf_has (l := r) ?_
    rcases h with ⟨c, h⟩ | h
    · left
      by_cases hk : (k == NameKind.free) = true
      · rw [if_pos hk, List.lookup_cons]
        cases hx : x == y with
        | true => exact ⟨_, rfl⟩
        | false => exact ⟨c, h⟩
      · rw [if_neg hk]; exact ⟨c, h⟩
    · rcases List.mem_cons.mp h with e | h
      · injection e with e1 e2
        subst e1; subst e2
        left
        rw [if_pos (show (NameKind.free == NameKind.free) = true from rfl), List.lookup_cons]
        simp
      · exact .inr h

/-- the block's context: N' its names; s, H at its entry; fp what it walks -/
noncomputable def cxComp (X : Cx) (N' : List Str) (scope : Scope) (C : Addr) (s : Shared) (H : Hp) (fp : List Addr) : Cx :=
  { X with N := N', s₀ := s, H₀ := H, env := compEnvC scope (clOf X.env scope.names []) C X.env, outer := X.stack, ex := fp, fn := fun _ => false, pn := [], xe := fun _ _ => False }

/-- what is asked of a block's scope, over the scope around it: N' its names, ix the slots of N (around) of those that it closes over -/
structure BlkOk (X : Cx) (N' : List Str) (ix : List (Option Nat)) (scope : Scope) : Prop where
  kind : scope.kind = .function
  nocell : ∀ y ∈ scope.names, y.2 ≠ .cell
  names : ∀ y ∈ scope.names, y.2 = .local → scope.names.lookup y.1 = some .local
  frees : ∀ y ∈ scope.names, y.2 = .free → X.env.kindOf y.1 = some .cell ∨ X.env.kindOf y.1 = some .free
  len : ix.length = N'.length
  at_ : ∀ (i j : Nat) (x : Str), N'[i]? = some x → ix[i]? = some (some j) → X.N[j]? = some x ∧ scope.names.lookup x = some .free

/-- the block's slots at its entry -/
noncomputable def inner (ix : List (Option Nat)) (σ : St) : St := ix.map fun o => o.bind fun j => (σ[j]?).bind id

noncomputable def tComp (ix : List (Option Nat)) (wi : TI) (g : TG) (tc : TT) (te : TE) : TE := fun σ H Q => wi σ H fun J H1 => ∀ D, H1 D = none → ∃ W : Nat → Nat → St → Hp → Prop, (∃ m, W 0 m (inner ix σ) (upd H1 D (.lst []))) ∧ ∀ i m σi H, W i m σi H →
  (J.stop i H ∧ Q (.ref D) H) ∨ (J.go i H ∧ ∃ N : St → Hp → Prop, (∀ σ' H', N σ' H' → ∃ m', m' < m ∧ W (i + 1) m' σ' H') ∧ ∀ x H', J.yld i H x H' → g x σi H' fun σ2 H2 => tc σ2 H2 fun b H3 =>
    if b = true then te σ2 H3 fun v H4 => ∃ ys, H4 D = some (.lst ys) ∧ ys.length < sizeLine ∧ N σ2 (upd H4 D (.lst (ys ++ [v]))) else N σ2 H3)

theorem lookup_relabel_free {env : Env} {x : Str} : ∀ {names : List (Str × NameKind)}, names.lookup x = some .free → (env.kindOf x = some .cell ∨ env.kindOf x = some .free) →
    (names.map fun (n, k) => if (k == NameKind.free && env.scope.kind == .function && env.kindOf n == some .cell) then (n, NameKind.cell) else (n, k)).lookup x = some .cell ∨
    (names.map fun (n, k) => if (k == NameKind.free && env.scope.kind == .function && env.kindOf n == some .cell) then (n, NameKind.cell) else (n, k)).lookup x = some .free
  | [], h, _ => by simp at h
  | (n, k) :: r, h, ho => by
    cases hx : x == n with
    | true =>
      simp only [List.lookup_cons, hx] at h
      cases h
      by_cases hc : (NameKind.free == NameKind.free && env.scope.kind == .function && env.kindOf n == some .cell) = true
      · left
        show List.lookup x ((if (NameKind.free == NameKind.free && env.scope.kind == .function && env.kindOf n == some .cell) = true then (n, NameKind.cell) else (n, .free)) :: _) = _
        rw [if_pos hc]; simp only [List.lookup_cons, hx]
      · right
        show List.lookup x ((if (NameKind.free == NameKind.free && env.scope.kind == .function && env.kindOf n == some .cell) = true then (n, NameKind.cell) else (n, .free)) :: _) = _
        rw [if_neg hc]; simp only [List.lookup_cons, hx]
    | false =>
      simp only [List.lookup_cons, hx] at h
      have ih := lookup_relabel_free (env := env) h ho
      show List.lookup x ((if (k == NameKind.free && env.scope.kind == .function && env.kindOf n == some .cell) = true then (n, NameKind.cell) else (n, k)) :: _) = _ ∨
        List.lookup x ((if (k == NameKind.free && env.scope.kind == .function && env.kindOf n == some .cell) = true then (n, NameKind.cell) else (n, k)) :: _) = _
      by_cases hc : (k == NameKind.free && env.scope.kind == .function && env.kindOf n == some .cell) = true
      · rw [if_pos hc]; simp only [List.lookup_cons, hx]; exact ih
      · rw [if_neg hc]; simp only [List.lookup_cons, hx]; exact ih
theorem lookup_relabel_back {env : Env} {x : Str} : ∀ {names : List (Str × NameKind)}, (∀ y ∈ names, y.2 ≠ .cell) →
    ((names.map fun (n, k) => if (k == NameKind.free && env.scope.kind == .function && env.kindOf n == some .cell) then (n, NameKind.cell) else (n, k)).lookup x = some .cell ∨
    (names.map fun (n, k) => if (k == NameKind.free && env.scope.kind == .function && env.kindOf n == some .cell) then (n, NameKind.cell) else (n, k)).lookup x = some .free) → (x, NameKind.free) ∈ names
  | [], _, h => by simp at h
  | (n, k) :: r, hn, h => by
    have h : List.lookup x ((if (k == NameKind.free && env.scope.kind == .function && env.kindOf n == some .cell) = true then (n, NameKind.cell) else (n, k)) :: (r.map fun (n, k) => if (k == NameKind.free && env.scope.kind == .function && env.kindOf n == some .cell) then (n, NameKind.cell) else (n, k))) = some .cell ∨
      List.lookup x ((if (k == NameKind.free && env.scope.kind == .function && env.kindOf n == some .cell) = true then (n, NameKind.cell) else (n, k)) :: (r.map fun (n, k) => if (k == NameKind.free && env.scope.kind == .function && env.kindOf n == some .cell) then (n, NameKind.cell) else (n, k))) = some .free := h
    cases hx : x == n with
    | true =>
      have e : x = n := eq_of_beq hx
      subst e
      by_cases hc : (k == NameKind.free && env.scope.kind == .function && env.kindOf x == some .cell) = true
      · have hk : k = .free := by
          simp only [Bool.and_eq_true, beq_iff_eq] at hc
          exact hc.1.1
        subst hk; exact List.mem_cons_self
      · rw [if_neg hc] at h
        simp only [List.lookup_cons, hx, Option.some.injEq] at h
        rcases h with h | h
        · exact absurd h (hn (x, k) List.mem_cons_self)
        · subst h; exact List.mem_cons_self
    | false =>
      refine List.mem_cons_of_mem _ (lookup_relabel_back (env := env) (fun y hy => hn y (List.mem_cons_of_mem _ hy)) ?_)
      by_cases hc : (k == NameKind.free && env.scope.kind == .function && env.kindOf n == some .cell) = true
      · rw [if_pos hc] at h; simp only [List.lookup_cons, hx] at h; exact h
      · rw [if_neg hc] at h; simp only [List.lookup_cons, hx] at h; exact h
end L2
namespace L2
open PySem PySem.Spec PyProof.Rows
/-- the tests of a clause -/
noncomputable def PIfs (X : Cx) (ifs : List Expr) (t : TT) : Prop :=
  ∀ (pins : List (Addr × Obj)) (s : Shared) (σ : St) (H : Hp) (Q : Bool → Hp → Prop), Inv X pins σ H s → t σ H Q →
    wpAny (model X.prog X.w) X.A (forIn ifs true fun c r => if r = true then do let ok ← isTrue c X.env (eval c X.env); pure (ForInStep.yield ok) else pure (ForInStep.yield r)) (TP X pins σ Q) X.xe s
noncomputable def tYes : TT := fun _ H Q => Q true H
section
variable {X : Cx} {pins : List (Addr × Obj)} {σ : St} {H : Hp} {s : Shared}
theorem pifs_nil : PIfs X [] tYes := fun _ _ _ H _ I h => wpAny_tests_nil ⟨H, I, h⟩
theorem pifs_one {c : Expr} {t : TT} (h : PT X c t) : PIfs X [c] t := fun pins s σ H Q I hw => wpAny_tests_one (h pins s σ H Q I hw)

theorem Inv.blk {N' : List Str} {ix : List (Option Nat)} {scope : Scope} {fp : List Addr} {h1 : Heap} {tk : Nat} (I : Inv X pins σ H s) (B : BlkOk X N' ix scope) (f : ∀ b ∈ fp, FpOk X pins H b) (hlt : ∀ b ∈ fp, b < s.heap.objs.size)
    (ns : h1.Ns s.heap.objs.size (fun _ => none)) (old : ∀ b o, s.heap.get? b = some o → h1.get? b = some o) :
    Inv (cxComp X N' scope s.heap.objs.size s H fp) [] (inner ix σ) H { s with heap := h1, toks := tk } := by
  have hfree : ∀ y ∈ scope.names, y.2 = .free → ∃ c, X.env.cells.lookup y.1 = some c := fun y hy e => I.ok.has y.1 (B.frees y hy e)
  have hc : ∀ x c, (clOf X.env scope.names []).lookup x = some c → X.env.cells.lookup x = some c := fun x c e => clOf_lookup hfree (fun _ _ z => by cases z) e
  have stk : ∀ b ∈ fp, b ∉ frs X.stack := fun b hb z => by
    rcases List.mem_cons.mp (I.stkSub b z) with e | e
    · exact (f b hb).2.1 e
    · exact (f b hb).2.2.1 e
  refine ⟨⟨I.ok.mod, B.kind, I.ok.glob, I.ok.blt, Nat.le_refl _, fun x y c h1 h2 => I.ok.inj x y c (hc x c h1) (hc y c h2), fun x hx => ?_, fun x c h => (by cases h), I.ok.hd, I.ok.frames, .inl rfl, fun b hb => ⟨Nat.ne_of_lt (hlt b hb), fun x c e => (f b hb).2.2.2.2.1 x c (hc x c e)⟩,
      I.bs, Nat.le_trans I.ok.bsz I.sz, fun b o e hb => ?_, stk, I.stack, I.stkFree⟩, rfl, I.bare, Un.kept old, ⟨_, ns, fun i x v h1 h2 h3 => ?_⟩, fun x c e => ?_, I.hok.fresh (Nat.le_refl _), fun x c e => I.freeC x c (hc x c e), fun p hp => absurd (show p ∈ ([] : List (Addr × Obj)) from hp) (by simp), I.hok.kept old, ?_⟩
  · exact clOf_has (.inr (lookup_relabel_back B.nocell hx))
  · rcases (f b hb).2.2.2.1 with z | z
    · exact I.ok.noex b o e z
    · exact absurd (Nat.lt_of_lt_of_le (Heap.lt_size e) (Nat.le_trans I.ok.bsz z)) (Nat.lt_irrefl _)
  · have h2 : (ix.map fun o => o.bind fun j => (σ[j]?).bind id)[i]? = some (some v) := h2
    rw [List.getElem?_map] at h2
    cases ho : ix[i]? with
    | none => rw [ho] at h2; cases h2
    | some o =>
      rw [ho] at h2
      cases o with
      | none => cases h2
      | some j =>
        have h2 : (σ[j]?).bind id = some v := Option.some.inj h2
        have h2 : σ[j]? = some (some v) := by
          cases hs : σ[j]? with
          | none => rw [hs] at h2; cases h2
          | some w => rw [hs] at h2; cases h2; rfl
        obtain ⟨hN, hf⟩ := B.at_ i j x h1 ho
        have hk := B.frees (x, .free) (PySem.mem_of_lookup hf) rfl
        obtain ⟨m, hn, hl⟩ := I.loc
        obtain ⟨u, r, lk⟩ := hl j x v hN h2 (hk.elim (fun z => .inr (.inl z)) fun z => .inr (.inr z))
        refine ⟨u, r, .inr ?_⟩
        rcases lk with ⟨z, _⟩ | ⟨_, c, e, z⟩
        · rcases hk with hk | hk
          · exact absurd (hk.symm.trans z) (by decide)
          · exact absurd (hk.symm.trans z) (by decide)
        · obtain ⟨c', e'⟩ := clOf_has (env := X.env) (cs := []) (.inr (PySem.mem_of_lookup hf))
          have ec : c' = c := Option.some.inj ((hc x c' e').symm.trans e)
          subst ec
          refine ⟨lookup_relabel_free hf hk, c', e', ?_⟩
          obtain ⟨o, ho, hd⟩ := z
          exact ⟨o, old _ _ ho, hd⟩
  · obtain ⟨v, o, ho, hd⟩ := I.cell x c (hc x c e)
    exact ⟨v, o, old _ _ ho, hd⟩
  · show (inner ix σ).length = N'.length
    unfold inner
    rw [List.length_map]
    exact B.len

theorem blk_run {elt tg iter : Expr} {ifs : List Expr} {scope : Scope} {pos : Pos} {N' : List Str} {ix : List (Option Nat)} {g : TG} {tc : TT} {te : TE} {J : It} {fp : List Addr} {it : Addr} {tn : Nat → Heap → Prop} (B : BlkOk X N' ix scope)
    (hg : ∀ C s H fp, PG (cxComp X N' scope C s H fp) tg g) (hi : ∀ C s H fp, PIfs (cxComp X N' scope C s H fp) ifs tc) (he : ∀ C s H fp, PE (cxComp X N' scope C s H fp) elt te) (hc : X.calm = true)
    (I : Inv X pins σ H s) (T : Turn X.prog X.w X.K tg J fp it tn) (st : tn 0 s.heap) (f : ∀ b ∈ fp, FpOk X pins H b) {Q : VK} {E : Value → Shared → Prop}
    (w : ∃ W : Nat → Nat → St → Hp → Prop, (∃ m, W 0 m (inner ix σ) (upd H s.heap.objs.size (.lst []))) ∧ ∀ i m σi H, W i m σi H →
      (J.stop i H ∧ Q (.ref s.heap.objs.size) H) ∨ (J.go i H ∧ ∃ N : St → Hp → Prop, (∀ σ' H', N σ' H' → ∃ m', m' < m ∧ W (i + 1) m' σ' H') ∧ ∀ x H', J.yld i H x H' → g x σi H' fun σ2 H2 => tc σ2 H2 fun b H3 =>
        if b = true then te σ2 H3 fun v H4 => ∃ ys, H4 s.heap.objs.size = some (.lst ys) ∧ ys.length < sizeLine ∧ N σ2 (upd H4 s.heap.objs.size (.lst (ys ++ [v]))) else N σ2 H3))
    {RR : Value → Addr → Result → Shared → Prop} (hRR : ∀ C H' s' m, Inv X pins σ H' s' → FpOk X pins H' C → s'.heap.Ns C m → Q (.ref s.heap.objs.size) H' → RR (.ref s.heap.objs.size) C (.ok .next) s') :
    wpAny (model X.prog X.w) X.A (newList []) (fun acc s₃ => wpAny (model X.prog X.w) X.A (newFunctionEnv scope X.env.globals (clOf X.env scope.names []) [] X.env.qual none .none (some X.env)) (fun cenv s₄ =>
      codeAny (model X.prog X.w) X.A (.compStart (.ListComp elt [⟨tg, iter, ifs, 0⟩] scope pos) 0 (.ref it) acc { cenv with scope := relabel scope X.env }) (RR acc cenv.locals) s₄) E s₃) E s := by
  obtain ⟨W, ⟨m0, w0⟩, turn⟩ := w
  have flt : ∀ b ∈ fp, b < s.heap.objs.size := fun b hb => by
    obtain ⟨o, ho, _⟩ := T.obj 0 _ st b hb
    exact Heap.lt_size ho
  have I3 : Inv X pins σ (upd H s.heap.objs.size (.lst [])) { s with heap := s.heap.push { cls := .type "list", data := .seq ([] : List Value).toArray }, toks := s.toks } := I.lnew .nil (Nat.zero_le _)
  have hfr : ∀ b ∈ fp, (upd H s.heap.objs.size (.lst [])) b = none := fun b hb => by rw [upd_ne (Nat.ne_of_lt (flt b hb))]; exact (f b hb).1
  have f3 : ∀ b ∈ fp, FpOk X pins (upd H s.heap.objs.size (.lst [])) b := fun b hb => ⟨hfr b hb, (f b hb).2⟩
  refine wpAny_newObj_type (wpAny_newFunctionEnv B.nocell (by intro y hy; simp at hy) (fun h₁ hns₁ hsb₁ => ?_) B.kind)
  dsimp only at hns₁ hsb₁ ⊢
  generalize hH3 : s.heap.push { cls := .type "list", data := .seq ([] : List Value).toArray } = h3 at hns₁ hsb₁ I3 ⊢
  obtain ⟨s3, e3⟩ : ∃ s3 : Shared, s3 = { s with heap := h3 } := ⟨_, rfl⟩
  obtain rfl : h3 = s3.heap := by rw [e3]
  have I3 : Inv X pins σ (upd H s.heap.objs.size (.lst [])) s3 := by
    have e : s3 = { s with heap := s3.heap, toks := s.toks } := e3
    rw [e]; exact I3
  have eT : s3.toks = s.toks := by rw [e3]
  have eS : ({ s with heap := h₁, toks := s.toks + ([] : List (Str × Value)).length } : Shared) = { s3 with heap := h₁, toks := s3.toks + ([] : List (Str × Value)).length } := by rw [e3]
  rw [eS]
  have hz3 : s3.heap.objs.size = s.heap.objs.size + 1 := by rw [← hH3]; exact Heap.size_push _ _
  have old : ∀ b o, s3.heap.get? b = some o → h₁.get? b = some o := fun b o e => hsb₁.extBut b o (Nat.ne_of_lt (Heap.lt_size e)) (Heap.get?_push_of_some _ e)
  have st3 : tn 0 s3.heap := T.keep _ _ _ st fun b hb o e => by rw [← hH3]; exact Heap.get?_push_of_some _ e
  have st4 : tn 0 h₁ := T.keep _ _ _ st3 fun b _ o e => old b o e
  have I4 := I3.blk (tk := s3.toks + ([] : List (Str × Value)).length) B f3 (fun b hb => Nat.lt_of_lt_of_le (flt b hb) (by rw [hz3]; exact Nat.le_succ _)) (show h₁.Ns s3.heap.objs.size (fun _ => none) from hns₁) old
  generalize hX' : cxComp X N' scope s3.heap.objs.size s3 (upd H s.heap.objs.size (.lst [])) fp = X' at I4
  have eX : X'.prog = X.prog ∧ X'.w = X.w ∧ X'.K = X.K ∧ X'.A = X.A ∧ X'.calm = X.calm ∧ X'.env = compEnvC scope (clOf X.env scope.names []) s3.heap.objs.size X.env ∧ X'.ex = fp ∧ X'.outer = X.stack ∧ X'.s₀ = s3 ∧ X'.H₀ = upd H s.heap.objs.size (.lst []) ∧ X'.pn = [] ∧ X'.xe = (fun _ _ => False) := by
    rw [← hX']; exact ⟨rfl, rfl, rfl, rfl, rfl, rfl, rfl, rfl, rfl, rfl, rfl, rfl⟩
  have hg' : PG X' tg g := hX' ▸ hg _ _ _ _
  have hi' : PIfs X' ifs tc := hX' ▸ hi _ _ _ _
  have he' : PE X' elt te := hX' ▸ he _ _ _ _
  obtain ⟨e1, e2, e3, e4, e5, e6, e7, e8, e9, e10, e11, e12⟩ := eX
  have stat : ∀ {H' : Hp}, (∀ b ∈ fp, H' b = none) → ∀ b ∈ fp, FpOk X' [] H' b := fun {H'} hn b hb => by
    have q := I4.ok.exf b (by rw [e7]; exact hb)
    refine ⟨hn b hb, q.1, ?_, .inl (by rw [e7]; exact hb), q.2, fun p hp => ?_⟩
    · exact I4.ok.exfs b (by rw [e7]; exact hb)
    · rw [e11] at hp; simp at hp
  have loop : codeAny (model X.prog X.w) X.A (.compLoop (.ListComp elt [⟨tg, iter, ifs, 0⟩] scope pos) 0 (.ref it) (.ref s.heap.objs.size) (compEnvC scope (clOf X.env scope.names []) s3.heap.objs.size X.env))
      (RR (.ref s.heap.objs.size) s3.heap.objs.size) { s3 with heap := h₁, toks := s3.toks + ([] : List (Str × Value)).length } := by
    refine loop_go (fun n s' => ∃ i σi Hi, Inv X' [] σi Hi s' ∧ tn i s'.heap ∧ (∀ b ∈ fp, Hi b = none) ∧ W i n σi Hi) ?_ m0 ⟨0, _, _, I4, st4, hfr, w0⟩
    rintro n s5 ⟨i, σ5, H5, I5, st5, fr5, w5⟩
    rcases turn i n σ5 H5 w5 with ⟨stop, qn⟩ | ⟨go, N, hN, step⟩
    · have d := T.done X' e1 e2 e3 (by rw [e5]; exact hc) i [] s5 σ5 H5 (fun _ _ => False) I5 (stat fr5) st5 stop
      rw [e4] at d
      (refine thn d ?_; rintro r s6 ⟨hr, I6⟩)
      subst hr
      have u := I6.base
      rw [e7, e9, e10] at u
      have u : Un (frs X'.outer) fp (upd H s.heap.objs.size (.lst [])) H5 s3.heap s6.heap := u
      rw [e8] at u
      have ok6 := I6.hok
      rw [e1, e2] at ok6
      have I7 : Inv X pins σ H5 s6 := I3.call' (ch := fp) (by have := I6.os; rw [e9] at this; exact this) u ok6 I6.bare fun b hb => ⟨(f b hb).2.2.2.1, (f b hb).2.1, (f b hb).2.2.2.2.1, (f b hb).2.2.2.2.2⟩
      have hfree := I6.free
      obtain ⟨m, hm, _⟩ := I6.loc
      rw [e6] at hfree hm
      exact hRR _ H5 s6 m I7 (I3.fpOk (Nat.le_refl _) hfree) hm qn
    · have d := T.item X' e1 e2 e3 (by rw [e5]; exact hc) i [] s5 σ5 H5 (fun _ _ => False) I5 (stat fr5) st5 go
      rw [e4] at d
      (refine thn d ?_; rintro r s6 ⟨u, hr, h6⟩)
      subst hr
      (refine thn h6 ?_; rintro _ s7 ⟨x, H7, I7, r7, y7, st7, fr7⟩)
      have I7' := I7.pinned (stat fr7) (T.obj _ _ st7)
      have a := hg' _ s7 σ5 H7 x u _ I7' r7 (step x H7 y7)
      rw [e1, e2, e4, e6, e12] at a
      (refine thn a ?_; rintro _ s8 ⟨σ8, H8, I8, q8⟩)
      have t := hi' _ s8 σ8 H8 _ I8 q8
      rw [e1, e2, e4, e6, e12] at t
      have again : ∀ {σ9 : St} {H9 : Hp} {s9 : Shared}, Inv X' ([] ++ pinsAt fp s7.heap) σ9 H9 s9 → N σ9 H9 → ∃ m, m < n ∧ ∃ i σi Hi, Inv X' [] σi Hi s9 ∧ tn i s9.heap ∧ (∀ b ∈ fp, Hi b = none) ∧ W i m σi Hi := fun {σ9 H9 s9} I9 n9 => by
        obtain ⟨m', hm, w9⟩ := hN σ9 H9 n9
        refine ⟨m', hm, i + 1, σ9, H9, I9.unpinned, T.keep _ _ _ st7 fun b hb o e => (I9.pin (b, o) (List.mem_append_right _ (List.mem_append_right _ (mem_pinsAt hb e)))).1, fun b hb => ?_, w9⟩
        obtain ⟨o, e, d⟩ := T.obj _ _ st7 b hb
        exact (I9.pin (b, o) (List.mem_append_right _ (List.mem_append_right _ (mem_pinsAt hb e)))).2.1
      (refine thn t ?_; rintro ok s9 ⟨H9, I9, q9⟩)
      cases ok with
      | false =>
        rw [if_neg Bool.false_ne_true] at q9 ⊢
        exact again I9 q9
      | true =>
        rw [if_pos rfl] at q9 ⊢
        have v := he' _ s9 σ8 H9 _ I9 q9
        rw [e1, e2, e4, e6, e12] at v
        (refine thn v ?_; rintro y s10 ⟨z, H10, I10, r10, ys, hD, hz, q10⟩)
        have ap := mt_append _ s10 σ8 H10 (.ref s.heap.objs.size) [z] (.ref s.heap.objs.size) [y] (fun _ H' => N σ8 H') I10 rfl (.cons r10 .nil) ⟨_, ys, z, rfl, rfl, hD, hz, q10⟩
        rw [e1, e2, e4, e12] at ap
        (refine thn ap ?_; rintro _ s11 ⟨_, H11, I11, _, q11⟩; exact again I11 q11)
  exact codeAny_compStart_list loop (T.self _ _ _ _ _ st4 loop)

variable {elt tg iter : Expr} {ifs : List Expr} {scope : Scope} {pos : Pos} {N' : List Str} {ix : List (Option Nat)} {wi : TI} {g : TG} {tc : TT} {te : TE}
theorem pe_comp (B : BlkOk X N' ix scope) (hc : X.calm = true) (hw : PI X tg iter wi)
    (hg : ∀ C s H fp, PG (cxComp X N' scope C s H fp) tg g) (hi : ∀ C s H fp, PIfs (cxComp X N' scope C s H fp) ifs tc) (he : ∀ C s H fp, PE (cxComp X N' scope C s H fp) elt te)
    (hs : ∀ x, foldedSetIterable iter X.env x = pure x := by intro _; rfl) :
    PE X (.ListComp elt [⟨tg, iter, ifs, 0⟩] scope pos) (tComp ix wi g tc te) := by
  intro pins s σ H Q I h
  rw [eval_ListComp]
  refine wpAny_comprehension_free (use := none) rfl hs (closure_is fun y hy e => I.ok.has y.1 (B.frees y hy e)) B.kind B.names ?_
  refine thn (hw pins s σ H _ I h) fun v s1 h1 => thn h1 fun itv s2 h2 => ?_
  obtain ⟨it, fp, tn, J, H2, e, I2, T, st2, f2, q2⟩ := h2
  subst e
  refine blk_run B hg hi he hc I2 T st2 f2 (Q := Q) (q2 _ I2.fresh) fun C H' s' m I' fC hm q => ?_
  refine ⟨m, hm, fun h' sb => ⟨.ref s2.heap.objs.size, H', ?_, rfl, q⟩⟩
  exact I'.turned (t' := s'.toks) (it := C) (fun b o hb e => sb.extBut b o hb e) fC.1 fC.2.1 fC.2.2.2.1 fC.2.2.2.2.1 fC.2.2.2.2.2
/-- name = [..], the name a local of its own on that row -/
noncomputable def tAsgC (i : Nat) (t : TE) : TS := fun D σ H => t σ H fun x H1 => D.nx (σ.set i (some x)) H1
theorem ps_setC {i : Nat} {y : Str} {py spos : Pos} (B : BlkOk X N' ix scope) (hc : X.calm = true) (hN : X.N.Nodup) (hy : X.N[i]? = some y) (hl : Loc X.env.scope y) (hw : PI X tg iter wi)
    (hg : ∀ C s H fp, PG (cxComp X N' scope C s H fp) tg g) (hi : ∀ C s H fp, PIfs (cxComp X N' scope C s H fp) ifs tc) (he : ∀ C s H fp, PE (cxComp X N' scope C s H fp) elt te)
    (hsw : swapsWith (.ListComp elt [⟨tg, iter, ifs, 0⟩] scope pos) (some (.Name y py)) spos.line X.env = pure true := by rfl)
    (hf : X.fn y = true ∨ X.env.scope.names.lookup y = some .local := by first | exact .inl rfl | exact .inr rfl | assumption)
    (hs : ∀ x, foldedSetIterable iter X.env x = pure x := by intro _; rfl) :
    PS X (.Assign [.Name y py] (.ListComp elt [⟨tg, iter, ifs, 0⟩] scope pos) spos) (tAsgC i (tComp ix wi g tc te)) := by
  intro pins s σ H D I h
  rw [exec_Assign_Name_used _ _ _ _ hsw]
  refine wpAny_bind (wpAny_standAt (wpAny_bind ?_))
  show wpAny _ X.A (do let _ ← comprehension (.ListComp elt [⟨tg, iter, ifs, 0⟩] scope pos) scope X.env _ (newList []) false (eval iter X.env) (some (assign (.Name y py) X.env))) _ _ s
  refine wpAny_bind (wpAny_mono (wpAny_comprehension_free (use := some (assign (.Name y py) X.env)) (Q := fun _ s' => SP X pins D .next s') rfl hs (closure_is fun y hy e => I.ok.has y.1 (B.frees y hy e)) B.kind B.names
    (thn (hw pins s σ H _ I h) fun v s1 h1 => thn h1 fun itv s2 h2 => ?_)) (fun _ s' hq => wpAny_pure (wpAny_pure hq)) fun _ _ e => e)
  obtain ⟨it, fp, tn, J, H2, e, I2, T, st2, f2, q2⟩ := h2
  subst e
  refine blk_run B hg hi he hc I2 T st2 f2 (Q := fun x H1 => D.nx (σ.set i (some x)) H1) (q2 _ I2.fresh) fun C H' s' m I' fC hm q => ?_
  show wpAny _ _ (assign (.Name y py) X.env (.ref s2.heap.objs.size)) _ _ _
  (refine wpAny_assign_Name (store_ok2 I' hN hy hl (v := .ref s2.heap.objs.size) rfl (?_) hf); rintro s'' I'' ⟨a, hsame, ha⟩)
  have hCa : C ≠ a := by
    rcases ha with z | z
    · rw [z]; exact fC.2.1
    · intro e; exact fC.2.2.2.2.1 _ _ z e.symm
  refine ⟨m, hm.sameBut hsame hCa, fun h' sb => ⟨_, H', ?_, q⟩⟩
  exact I''.turned (t' := s''.toks) (it := C) (fun b o hb e => sb.extBut b o hb e) fC.1 fC.2.1 fC.2.2.2.1 fC.2.2.2.2.1 fC.2.2.2.2.2
end
end L2

namespace L2
open PySem PySem.Spec PyProof.Rows
section
variable {X : Cx} {pos : Pos}
/-- (a, b, ..) = a list of that length -/
noncomputable def gLst (K : PySem.W.Frag) (n : Nat) (t : TGs) : TG := fun v σ H Q => ∃ a xs, v = .ref a ∧ SqL K H a xs ∧ xs.length = n ∧ t xs σ H Q
theorem pg_list {es : List Expr} {k : Nat} {t : TGs} {n : Nat} (hc : X.calm = true) (h : PGs X es t)
    (hn : (assignEach es X.env).length = n := by rfl) (hst : (assignEach es X.env).findIdx? (·.1) = none := by rfl) : PG X (.Tuple es k pos) (gLst X.K n t) := by
  intro pins s σ H v u Q I r hw
  obtain ⟨a, xs, e1, hq, hl, hw⟩ := hw
  subst e1
  cases r
  obtain ⟨its, rv, ht, hz⟩ := I.list hq
  rw [PyProof.Rows.assign_Tuple]
  refine wpAny_bind (wpAny_standAt ?_)
  unfold unpack
  have hsz : (assignEach es X.env).length = its.toArray.size := by simp [hn, ← hl, rv.length]
  rw [hsz, hst]
  refine wpAny_bind (wpAny_holding (PySem.W.kun_itemsOf (I.ok.hd hc) ht.isList fun h' hx => ?_))
  have I1 : Inv X pins σ H { s with heap := h' } := I.kept (t' := s.toks) fun b o e => hx b o (Nat.ne_of_lt (Heap.lt_size e)) e
  exact h pins _ σ H xs _ Q I1 (by simpa using rv) hw
theorem pg_or {tg : Expr} {t t' : TG} (h : PG X tg t) (h' : PG X tg t') : PG X tg (fun v σ H Q => t v σ H Q ∨ t' v σ H Q) := by
  intro pins s σ H v u Q I r q
  rcases q with q | q
  · exact h pins s σ H v u Q I r q
  · exact h' pins s σ H v u Q I r q
/-- what a loop walks: a list or a tuple -/
noncomputable def iSeq (K : PySem.W.Frag) (tl : TE) : TI := fun σ H R => tl σ H fun x H1 => ∃ a, x = .ref a ∧ (((∃ xs, SqL K H1 a xs) ∧ R (Itl K a) H1) ∨ ((∃ xs, SqT K H1 a xs) ∧ R (Itt K a) H1))
theorem pi_seq {tg l : Expr} {tl : TE} (hl : PE X l tl) : PI X tg l (iSeq X.K tl) := by
  intro pins s σ H R I h
  (refine thn (hl pins s σ H _ I h) ?_; rintro v s1 ⟨x, H1, I1, r1, q1⟩)
  obtain ⟨a, e, ⟨⟨xs, hq⟩, q⟩ | ⟨⟨xs, hq⟩, q⟩⟩ := q1
  · subst e
    cases r1
    obtain ⟨its, rv, p, hz⟩ := I1.list hq
    refine wpAny_pyIter_list p.isList ?_
    refine ⟨s1.heap.objs.size, [s1.heap.objs.size], _, _, H1, rfl, I1.kept (t' := s1.toks) fun b o e => Heap.get?_push_of_some _ e, turn_list a _, ⟨_, Heap.get?_push_size _ rfl, rfl, rfl⟩, fun b hb => ?_, q⟩
    have e : b = s1.heap.objs.size := by simpa using hb
    subst e
    exact I1.fpOk (Nat.le_refl _) (I1.hok.fresh (Nat.le_refl _))
  · subst e
    cases r1
    obtain ⟨its, rv, p, hz⟩ := I1.tuple hq
    refine wpAny_pyIter_tuple (show s1.heap.IsTuple a its.toArray from p) ?_
    refine ⟨s1.heap.objs.size, [s1.heap.objs.size], _, _, H1, rfl, I1.kept (t' := s1.toks) fun b o e => Heap.get?_push_of_some _ e, turn_tuple a _, ⟨_, Heap.get?_push_size _ rfl, rfl, rfl⟩, fun b hb => ?_, q⟩
    have e : b = s1.heap.objs.size := by simpa using hb
    subst e
    exact I1.fpOk (Nat.le_refl _) (I1.hok.fresh (Nat.le_refl _))
theorem op_isNotB : OpR X (compareOp .IsNot) (fun x y H Q => ∃ b, y = .bl b ∧ Q (.bl (!decide (x = .bl b))) H) := by
  intro pins s σ H x y v u Q I rx ry h
  obtain ⟨b, rfl, q⟩ := h
  cases ry
  refine wpAny_isNot_plain ?_ (fin_bl I q ?_)
  · cases x <;> first
      | (cases rx; rfl)
      | (obtain ⟨t, rfl⟩ := rx; rfl)
  · cases x <;> first
      | (obtain ⟨t, rfl⟩ := rx; rfl)
      | (cases rx; cases b <;> rfl)
      | (cases rx; rename_i c; cases b <;> cases c <;> rfl)
/-- all of a list of bools -/
theorem vals_bools : ∀ {bs : List Bool} {us : List Value}, Vals (bs.map V.bl) us → us = bs.map Value.bool
  | [], _, .nil => rfl
  | b :: bs, _, .cons r t => by cases r; rw [vals_bools t]; rfl
theorem call_all (hc : X.calm = true) : CallR X (.builtin "all") (fun xs H Q => ∃ (p : Addr) (bs : List Bool), xs = [.ref p] ∧ SqL X.K H p (bs.map V.bl) ∧ Q (.bl (bs.all id)) H) := by
  intro pins s σ H xs us Q I r h
  obtain ⟨p, bs, rfl, hq, q⟩ := h
  obtain ⟨u, rfl, rx⟩ := vals1 r
  cases rx
  obtain ⟨its, r', pl, hz⟩ := I.list hq
  have e := vals_bools r'
  subst e
  have hl := pl.isList
  have hlt : p < s.heap.objs.size := by obtain ⟨_, e, _⟩ := hl; exact Heap.lt_size e
  refine call_all_walk (wpAny_pyIter_list hl ?_)
  refine ⟨s.heap.objs.size, [s.heap.objs.size, p], [s.heap.objs.size], (bs.map Value.bool).toArray.size, _, _, fun i => (bs[i]?).getD true, rfl, Walks.list (A := X.A.in1) (I.ok.hd hc) _ p (Nat.ne_of_lt hlt) (bs.map Value.bool).toArray,
    ⟨⟨_, Heap.get?_push_size _ rfl, rfl, rfl⟩, hl.push _⟩, fun i v s' Q' E' hP hQ => ?_, fun h' tk hk => ?_⟩
  · have hP : (bs.map Value.bool)[i]? = some v := by simpa using hP
    rw [List.getElem?_map] at hP
    cases hb : bs[i]? with
    | none => rw [hb] at hP; cases hP
    | some b =>
      rw [hb] at hP; cases hP
      simp only [hb, Option.getD_some] at hQ
      exact wpAny_truthy_bool hQ
  · have e : ((List.range (bs.map Value.bool).toArray.size).all fun i => (bs[i]?).getD true) = bs.all id := by
      rw [List.size_toArray, List.length_map, Bool.eq_iff_iff, List.all_eq_true, List.all_eq_true]
      constructor
      · intro h b hb
        obtain ⟨i, hi, e⟩ := List.mem_iff_getElem.mp hb
        have := h i (List.mem_range.mpr hi)
        rw [List.getElem?_eq_getElem hi, e] at this
        exact this
      · intro h i hi
        have hi := List.mem_range.mp hi
        rw [List.getElem?_eq_getElem hi]
        exact h _ (List.getElem_mem hi)
    rw [e]
    refine ⟨.bl _, H, ?_, rfl, q⟩
    exact I.kept fun b x e => hk b x (fun hm => by rw [List.mem_singleton.mp hm] at e; exact Nat.lt_irrefl _ (Heap.lt_size e)) (Heap.get?_push_of_some _ e)
/-- sum of a list of ints -/
theorem call_sum (hc : X.calm = true) : CallR X (.builtin "sum") (fun xs H Q => ∃ (p : Addr) (ns : List Int), xs = [.ref p] ∧ SqL X.K H p (ns.map V.int) ∧ Q (.int ns.sum) H) := by
  intro pins s σ H xs us Q I r h
  obtain ⟨p, ns, rfl, hq, q⟩ := h
  obtain ⟨u, rfl, rx⟩ := vals1 r
  cases rx
  obtain ⟨its, r', pl, hz⟩ := I.list hq
  obtain ⟨m, F⟩ := I.fr
  have hi : IntsAre its ns := intsAre_of r'
  obtain ⟨ys, hx⟩ := hi.allInts.items
  have hl' : s.heap.IsList p (intItems ys) := hx ▸ pl.isList
  refine sum_intListG (I.ok.hd hc) hl' fun h' tk t' hk => ?_
  have e1 : ns = ys.toList.map (·.1) := by
    rw [← nums_intItems, ← hx]
    exact (show numsOf its.toArray.toList = ns from hi.numsOf).symm
  have e2 : preSum (numAt ys) ys.size = ns.sum := by
    rw [preSum_eq, List.take_of_length_le (by simp), e1]
  rw [e2]
  exact ⟨.int ns.sum, H, I.kept hk, ⟨_, rfl⟩, q⟩
/-- isinstance(e, T), T a built-in -/
noncomputable def kindOfV (K : PySem.W.Frag) (H : Hp) : V → String → Prop
  | .non, n => n = "NoneType"
  | .bl _, n => n = "bool"
  | .int _, n => n = "int"
  | .str _, n => n = "str"
  | .ref a, n => (n = "list" ∧ ((∃ xs, H a = some (.lst xs)) ∨ ∃ o xs, H a = some (.frz o (.lst xs)))) ∨ (n = "tuple" ∧ ∃ xs, H a = some (.tup xs)) ∨ (n = "dict" ∧ ∃ xs, H a = some (.dK xs))
  | _, _ => False
noncomputable def subK (n T : String) : Bool := n == T || (n == "bool" && T == "int")
theorem kit_sub {K : PySem.W.Frag} {n T : String} (hn : n = "NoneType" ∨ n = "bool" ∨ n = "int" ∨ n = "str" ∨ n = "list" ∨ n = "tuple" ∨ n = "dict") (hT : T = "int" ∨ T = "str" ∨ T = "bool" ∨ T = "list" ∨ T = "tuple" ∨ T = "dict") : PySem.W.kitOne K (.type n) (.type T) = some (subK n T) := by
  rcases hn with rfl | rfl | rfl | rfl | rfl | rfl | rfl <;> rcases hT with rfl | rfl | rfl | rfl | rfl | rfl <;> rfl
theorem call_isinst : CallR X (.builtin "isinstance") (fun xs H Q => ∃ x n T, xs = [x, .ty T] ∧ kindOfV X.K H x n ∧ (T = "int" ∨ T = "str" ∨ T = "bool" ∨ T = "list" ∨ T = "tuple" ∨ T = "dict") ∧ Q (.bl (subK n T)) H) := by
  intro pins s σ H xs us Q I r h
  obtain ⟨x, n, T, rfl, hk, hT, q⟩ := h
  obtain ⟨u, w, rfl, rx, rt⟩ := vals2 r
  cases rt
  have fin : ∀ tk, EP X pins σ Q (.bool (subK n T)) { s with toks := tk } := fun tk => ⟨.bl (subK n T), H, I.tok tk, rfl, q⟩
  cases x with
  | non => cases (show n = "NoneType" from hk); exact isinst_ok I rx .non (kit_sub (by simp) hT) fin
  | bl b => cases (show n = "bool" from hk); exact isinst_ok I rx (.bl b) (kit_sub (by simp) hT) fin
  | int i => cases (show n = "int" from hk); exact isinst_ok I rx (.int i) (kit_sub (by simp) hT) fin
  | str i => cases (show n = "str" from hk); exact isinst_ok I rx (.str i) (kit_sub (by simp) hT) fin
  | ref a =>
    rcases (show (n = "list" ∧ ((∃ xs, H a = some (.lst xs)) ∨ ∃ o xs, H a = some (.frz o (.lst xs)))) ∨ (n = "tuple" ∧ ∃ xs, H a = some (.tup xs)) ∨ (n = "dict" ∧ ∃ xs, H a = some (.dK xs)) from hk) with ⟨e, ⟨xs, h1⟩ | ⟨o, xs, h1⟩⟩ | ⟨e, xs, h1⟩ | ⟨e, xs, h1⟩
    · cases e; exact isinst_ok I rx (.lst h1) (kit_sub (by simp) hT) fin
    · cases e; exact isinst_ok I rx (.frz h1) (kit_sub (by simp) hT) fin
    · cases e; exact isinst_ok I rx (.tup h1) (kit_sub (by simp) hT) fin
    · cases e; exact isinst_ok I rx (.dK h1) (kit_sub (by simp) hT) fin
  | _ => exact (show False from hk).elim
end
end L2

namespace L2
open PySem
/-- an exception that was caught -/
noncomputable def XH (a C : Addr) (dx : Option Addr) (h : Heap) : Prop := ∃ o vs, h.get? a = some o ∧ o.cls = .ref C ∧ o.dict = dx ∧ o.data = .fields vs
/-- its own dict -/
noncomputable def XDict (H : Hp) : Option Addr → List (Str × V) → Prop
  | none, ys => ys = []
  | some d, ys => ∃ o, H d = some (.frz o (.xd ys))
end L2
namespace L3
open PySem L2
set_option maxHeartbeats 4000000

/-! ### deep values: tuples are values, lists, dicts and instances are addresses -/
inductive D where
  | non | bl (b : Bool) | int (i : Int) | str (x : Str) | tup (xs : List D) | ref (a : Addr) | ty (n : String)
inductive DO where
  | lst (xs : List D) | fro (xs : List D) | dic (kvs : List (Key × D)) | dit (kvs : List (List Key × D)) | ins (C : Addr) (fs : List (Str × D)) | exc (C : Addr) (fs : List (Str × D))
noncomputable abbrev Gp := Addr → Option DO
noncomputable def gup (G : Gp) (a : Addr) (o : DO) : Gp := fun b => if b = a then some o else G b
theorem gup_same {G : Gp} {a : Addr} {o : DO} : gup G a o a = some o := by unfold gup; rw [if_pos rfl]
theorem gup_ne {G : Gp} {a b : Addr} {o : DO} (h : b ≠ a) : gup G a o b = G b := by unfold gup; rw [if_neg h]
theorem gup_gup {G : Gp} {a : Addr} {o u : DO} : gup (gup G a o) a u = gup G a u := by
  funext b; unfold gup; split <;> rfl
theorem gne {G : Gp} {a b : Addr} {o : DO} (h : G a = some o) (h' : G b = none) : a ≠ b := by
  intro e; subst e; rw [h] at h'; cases h'

structure Le (H H' : Hp) : Prop where
  tups : ∀ b xs, H b = some (.tup xs) → H' b = some (.tup xs)
  frzs : ∀ b o u, H b = some (.frz o u) → H' b = some (.frz o u)
theorem Le.refl (H : Hp) : Le H H := ⟨fun _ _ h => h, fun _ _ _ h => h⟩
theorem Le.trans {H H1 H2 : Hp} (a : Le H H1) (b : Le H1 H2) : Le H H2 := ⟨fun c xs h => b.tups c xs (a.tups c xs h), fun c o u h => b.frzs c o u (a.frzs c o u h)⟩
theorem Le.sqT {K : PySem.W.Frag} {H H' : Hp} (l : Le H H') {a : Addr} {xs : List V} (h : SqT K H a xs) : SqT K H' a xs := by
  rcases h with (h | ⟨o, h⟩) | h
  · exact .inl (.inl (l.tups _ _ h))
  · exact .inl (.inr ⟨o, l.frzs _ _ _ h⟩)
  · exact .inr h
theorem Le.fresh {H : Hp} {p : Addr} {o : HO} (h : H p = none) : Le H (upd H p o) :=
  ⟨fun b xs q => by rw [upd_ne (ne_of_none q h)]; exact q, fun b o u q => by rw [upd_ne (ne_of_none q h)]; exact q⟩

mutual
noncomputable def RelD (K : PySem.W.Frag) (H : Hp) : D → V → Prop
  | .non, v => v = .non
  | .bl b, v => v = .bl b
  | .int i, v => v = .int i
  | .str x, v => v = .str x
  | .ref a, v => v = .ref a
  | .ty n, v => v = .ty n
  | .tup ds, v => ∃ a xs, v = .ref a ∧ SqT K H a xs ∧ RelDs K H ds xs
noncomputable def RelDs (K : PySem.W.Frag) (H : Hp) : List D → List V → Prop
  | [], xs => xs = []
  | d :: ds, xs => ∃ x r, xs = x :: r ∧ RelD K H d x ∧ RelDs K H ds r
end

section
variable {K : PySem.W.Frag} {H H' : Hp}
mutual
theorem RelD.le (l : Le H H') : ∀ {d : D} {v : V}, RelD K H d v → RelD K H' d v
  | .non, _, h => by simpa [RelD] using h
  | .bl _, _, h => by simpa [RelD] using h
  | .int _, _, h => by simpa [RelD] using h
  | .str _, _, h => by simpa [RelD] using h
  | .ref _, _, h => by simpa [RelD] using h
  | .ty _, _, h => by simpa [RelD] using h
  | .tup ds, _, h => by
    rw [RelD] at h ⊢
    obtain ⟨a, xs, e, s, r⟩ := h
    exact ⟨a, xs, e, l.sqT s, RelDs.le l r⟩
theorem RelDs.le (l : Le H H') : ∀ {ds : List D} {xs : List V}, RelDs K H ds xs → RelDs K H' ds xs
  | [], _, h => by simpa [RelDs] using h
  | d :: ds, _, h => by
    rw [RelDs] at h ⊢
    obtain ⟨x, r, e, h1, h2⟩ := h
    exact ⟨x, r, e, RelD.le l h1, RelDs.le l h2⟩
end
theorem RelDs.nil : RelDs K H [] [] := by rw [RelDs]
theorem RelDs.cons {d : D} {ds : List D} {x : V} {xs : List V} (h : RelD K H d x) (t : RelDs K H ds xs) : RelDs K H (d :: ds) (x :: xs) := by
  rw [RelDs]; exact ⟨x, xs, rfl, h, t⟩
theorem RelDs.inv_nil {xs : List V} (h : RelDs K H [] xs) : xs = [] := by rw [RelDs] at h; exact h
theorem RelDs.inv_cons {d : D} {ds : List D} {xs : List V} (h : RelDs K H (d :: ds) xs) : ∃ x r, xs = x :: r ∧ RelD K H d x ∧ RelDs K H ds r := by rw [RelDs] at h; exact h
theorem RelDs.length : ∀ {ds : List D} {xs : List V}, RelDs K H ds xs → ds.length = xs.length
  | [], _, h => by rw [h.inv_nil]; rfl
  | _ :: _, _, h => by obtain ⟨x, r, e, _, t⟩ := h.inv_cons; rw [e, List.length_cons, List.length_cons, t.length]
theorem RelDs.get : ∀ {ds : List D} {xs : List V} {i : Nat} {d : D}, RelDs K H ds xs → ds[i]? = some d → ∃ x, xs[i]? = some x ∧ RelD K H d x
  | [], _, _, _, _, e => by simp at e
  | _ :: _, _, 0, _, h, e => by
    obtain ⟨x, r, rfl, h1, t⟩ := h.inv_cons
    simp at e; subst e; exact ⟨x, rfl, h1⟩
  | _ :: _, _, i + 1, d, h, e => by
    obtain ⟨x, r, rfl, h1, t⟩ := h.inv_cons
    obtain ⟨y, h2, h3⟩ := RelDs.get (i := i) t (by simpa using e)
    exact ⟨y, by simpa using h2, h3⟩
theorem RelDs.of : ∀ {ds : List D} {xs : List V}, ds.length = xs.length → (∀ (i : Nat) d x, ds[i]? = some d → xs[i]? = some x → RelD K H d x) → RelDs K H ds xs
  | [], [], _, _ => .nil
  | [], _ :: _, h, _ => by simp at h
  | _ :: _, [], h, _ => by simp at h
  | d :: ds, x :: xs, h, f => .cons (f 0 d x rfl rfl) (RelDs.of (by simpa using h) fun i d x a b => f (i + 1) d x (by simpa using a) (by simpa using b))
theorem RelDs.append : ∀ {ds es : List D} {xs ys : List V}, RelDs K H ds xs → RelDs K H es ys → RelDs K H (ds ++ es) (xs ++ ys)
  | [], _, _, _, h, t => by rw [h.inv_nil]; exact t
  | _ :: _, _, _, _, h, t => by
    obtain ⟨x, r, rfl, h1, h2⟩ := h.inv_cons
    exact .cons h1 (h2.append t)
theorem RelDs.set {d : D} {x : V} (q : RelD K H d x) : ∀ {ds : List D} {xs : List V} (i : Nat), RelDs K H ds xs → RelDs K H (ds.set i d) (xs.set i x)
  | [], _, _, h => by rw [h.inv_nil]; exact .nil
  | _ :: _, _, 0, h => by
    obtain ⟨x, r, rfl, h1, h2⟩ := h.inv_cons
    exact .cons q h2
  | _ :: _, _, i + 1, h => by
    obtain ⟨x, r, rfl, h1, h2⟩ := h.inv_cons
    exact .cons h1 (h2.set q i)
theorem RelDs.take : ∀ {ds : List D} {xs : List V} (n : Nat), RelDs K H ds xs → RelDs K H (ds.take n) (xs.take n)
  | _, _, 0, _ => by simpa using RelDs.nil
  | [], _, _ + 1, h => by rw [h.inv_nil]; exact .nil
  | _ :: _, _, n + 1, h => by
    obtain ⟨x, r, rfl, h1, h2⟩ := h.inv_cons
    exact .cons h1 (h2.take n)
theorem RelDs.drop : ∀ {ds : List D} {xs : List V} (n : Nat), RelDs K H ds xs → RelDs K H (ds.drop n) (xs.drop n)
  | _, _, 0, h => by simpa using h
  | [], _, _ + 1, h => by rw [h.inv_nil]; exact .nil
  | _ :: _, _, n + 1, h => by
    obtain ⟨x, r, rfl, h1, h2⟩ := h.inv_cons
    exact h2.drop n
theorem RelDs.reverse : ∀ {ds : List D} {xs : List V}, RelDs K H ds xs → RelDs K H ds.reverse xs.reverse
  | [], _, h => by rw [h.inv_nil]; exact .nil
  | _ :: _, _, h => by
    obtain ⟨x, r, rfl, h1, h2⟩ := h.inv_cons
    rw [List.reverse_cons, List.reverse_cons]
    exact h2.reverse.append (.cons h1 .nil)
theorem RelDs.dropLast {ds : List D} {xs : List V} (h : RelDs K H ds xs) : RelDs K H ds.dropLast xs.dropLast := by
  rw [List.dropLast_eq_take, List.dropLast_eq_take, h.length]; exact h.take _
theorem RelDs.rep {ds : List D} {xs : List V} (h : RelDs K H ds xs) : ∀ k : Nat, RelDs K H (List.replicate k ds).flatten (List.replicate k xs).flatten
  | 0 => .nil
  | k + 1 => by rw [List.replicate_succ, List.replicate_succ, List.flatten_cons, List.flatten_cons]; exact h.append (h.rep k)

noncomputable def RelPs {κ : Type} (K : PySem.W.Frag) (H : Hp) (ps : List (κ × D)) (qs : List (κ × V)) : Prop := ps.map (·.1) = qs.map (·.1) ∧ RelDs K H (ps.map (·.2)) (qs.map (·.2))
theorem RelPs.le {κ : Type} (l : Le H H') {ps : List (κ × D)} {qs : List (κ × V)} (h : RelPs K H ps qs) : RelPs K H' ps qs := ⟨h.1, RelDs.le l h.2⟩
end

noncomputable def ObjD (K : PySem.W.Frag) (H : Hp) (a : Addr) : DO → Prop
  | .lst ds => ∃ xs, H a = some (.lst xs) ∧ RelDs K H ds xs
  | .fro ds => ∃ o xs, H a = some (.frz o (.lst xs)) ∧ RelDs K H ds xs
  | .dic kvs => ∃ ys, H a = some (.dK ys) ∧ RelPs K H kvs ys
  | .dit kvs => ∃ ys, H a = some (.dT ys) ∧ RelPs K H kvs ys
  | .ins C fs => ∃ dx ys, H a = some (.ins C dx ys) ∧ RelPs K H fs ys
  | .exc C fs => ∃ dx ys, H a = some (.ext (XH a C dx)) ∧ XDict H dx ys ∧ RelPs K H fs ys
theorem _root_.L2.XDict.le {H H' : Hp} (l : Le H H') {dx : Option Addr} {ys : List (Str × V)} (h : XDict H dx ys) : XDict H' dx ys := by
  cases dx with
  | none => exact h
  | some d => obtain ⟨o, e⟩ := h; exact ⟨o, l.frzs _ _ _ e⟩
noncomputable def Con (K : PySem.W.Frag) (G : Gp) (H : Hp) : Prop := ∀ a o, G a = some o → ObjD K H a o
section
variable {K : PySem.W.Frag} {G : Gp} {H H' : Hp} {a p : Addr} {o : DO}
theorem ObjD.some (h : ObjD K H a o) : ∃ u, H a = some u := by
  cases o with
  | lst ds => obtain ⟨xs, e, _⟩ := h; exact ⟨_, e⟩
  | fro ds => obtain ⟨_, xs, e, _⟩ := h; exact ⟨_, e⟩
  | dic ds => obtain ⟨xs, e, _⟩ := h; exact ⟨_, e⟩
  | dit ds => obtain ⟨xs, e, _⟩ := h; exact ⟨_, e⟩
  | ins C ds => obtain ⟨_, xs, e, _⟩ := h; exact ⟨_, e⟩
  | exc C ds => obtain ⟨_, xs, e, _⟩ := h; exact ⟨_, e⟩
theorem ObjD.stay (h : ObjD K H a o) (l : Le H H') (e : H' a = H a) : ObjD K H' a o := by
  cases o with
  | lst ds => obtain ⟨xs, q, r⟩ := h; exact ⟨xs, e.trans q, RelDs.le l r⟩
  | fro ds => obtain ⟨o, xs, q, r⟩ := h; exact ⟨o, xs, e.trans q, RelDs.le l r⟩
  | dic ds => obtain ⟨xs, q, r⟩ := h; exact ⟨xs, e.trans q, r.le l⟩
  | dit ds => obtain ⟨xs, q, r⟩ := h; exact ⟨xs, e.trans q, r.le l⟩
  | ins C ds => obtain ⟨dx, xs, q, r⟩ := h; exact ⟨dx, xs, e.trans q, r.le l⟩
  | exc C ds => obtain ⟨dx, xs, q, z, r⟩ := h; exact ⟨dx, xs, e.trans q, z.le l, r.le l⟩
theorem Con.fresh (c : Con K G H) (h : H p = none) : G p = none := by
  cases e : G p with
  | none => rfl
  | some o => obtain ⟨u, q⟩ := (c p o e).some; rw [h] at q; cases q
theorem Con.stay (c : Con K G H) (l : Le H H') (e : ∀ a o, G a = some o → H' a = H a) : Con K G H' := fun a o q => (c a o q).stay l (e a o q)
/-- a new object that G does not see -/
theorem Con.side {u : HO} (c : Con K G H) (h : H p = none) : Con K G (upd H p u) := c.stay (Le.fresh h) fun a o q => by
  obtain ⟨u, e⟩ := (c a o q).some
  exact upd_ne (ne_of_none e h)
/-- an object is laid or written -/
theorem Con.put {u : HO} (c : Con K G H) (l : Le H (upd H p u)) (n : ObjD K (upd H p u) p o) : Con K (gup G p o) (upd H p u) := fun b q e => by
  by_cases hb : b = p
  · subst hb; rw [gup_same] at e; cases e; exact n
  · rw [gup_ne hb] at e
    exact (c b q e).stay l (upd_ne hb)
theorem Le.lst {xs ys : List V} (h : H p = some (.lst xs)) : Le H (upd H p (.lst ys)) :=
  ⟨fun b zs q => by by_cases e : b = p
                    · subst e; rw [h] at q; cases q
                    · rw [upd_ne e]; exact q,
   fun b o u q => by by_cases e : b = p
                     · subst e; rw [h] at q; cases q
                     · rw [upd_ne e]; exact q⟩
theorem Le.dK {xs ys : List (Key × V)} (h : H p = some (.dK xs)) : Le H (upd H p (.dK ys)) :=
  ⟨fun b zs q => by by_cases e : b = p
                    · subst e; rw [h] at q; cases q
                    · rw [upd_ne e]; exact q,
   fun b o u q => by by_cases e : b = p
                     · subst e; rw [h] at q; cases q
                     · rw [upd_ne e]; exact q⟩
theorem Le.ins {C dx C' dx' : Addr} {xs ys : List (Str × V)} (h : H p = some (.ins C dx xs)) : Le H (upd H p (.ins C' dx' ys)) :=
  ⟨fun b zs q => by by_cases e : b = p
                    · subst e; rw [h] at q; cases q
                    · rw [upd_ne e]; exact q,
   fun b o u q => by by_cases e : b = p
                     · subst e; rw [h] at q; cases q
                     · rw [upd_ne e]; exact q⟩
theorem Con.lstNew {ds : List D} {xs : List V} (c : Con K G H) (h : H p = none) (r : RelDs K H ds xs) : Con K (gup G p (.lst ds)) (upd H p (.lst xs)) :=
  c.put (Le.fresh h) ⟨xs, upd_same, RelDs.le (Le.fresh h) r⟩
theorem Con.lstSet {ds : List D} {xs ys : List V} (c : Con K G H) (h : H p = some (.lst ys)) (r : RelDs K H ds xs) : Con K (gup G p (.lst ds)) (upd H p (.lst xs)) :=
  c.put (Le.lst h) ⟨xs, upd_same, RelDs.le (Le.lst h) r⟩
end

noncomputable abbrev DSt := List (Option D)
noncomputable def RelSt (K : PySem.W.Frag) (H : Hp) (σd : DSt) (σ : St) : Prop := σd.length = σ.length ∧ ∀ (i : Nat) d, σd[i]? = some (some d) → ∃ v, σ[i]? = some (some v) ∧ RelD K H d v
theorem RelSt.le {K : PySem.W.Frag} {H H' : Hp} {σd : DSt} {σ : St} (h : RelSt K H σd σ) (l : Le H H') : RelSt K H' σd σ :=
  ⟨h.1, fun i d e => let ⟨v, a, b⟩ := h.2 i d e; ⟨v, a, RelD.le l b⟩⟩
theorem RelSt.set {K : PySem.W.Frag} {H : Hp} {σd : DSt} {σ : St} {d : D} {v : V} (h : RelSt K H σd σ) (i : Nat) (r : RelD K H d v) : RelSt K H (σd.set i (some d)) (σ.set i (some v)) := by
  refine ⟨by rw [List.length_set, List.length_set]; exact h.1, fun j e q => ?_⟩
  rw [List.getElem?_set] at q
  split at q
  · rename_i hij; subst hij
    split at q
    · rename_i hl; cases q
      exact ⟨v, by rw [List.getElem?_set_self (by rw [← h.1]; exact hl)], r⟩
    · cases q
  · rename_i hij
    obtain ⟨w, a, b⟩ := h.2 j e q
    exact ⟨w, by rw [List.getElem?_set_ne hij]; exact a, b⟩

noncomputable abbrev DK := D → Gp → Prop
noncomputable abbrev TE3 := DSt → Gp → DK → Prop
noncomputable abbrev TT3 := DSt → Gp → (Bool → Gp → Prop) → Prop
noncomputable abbrev TA3 := DSt → Gp → (List D → Gp → Prop) → Prop
structure Ends3 where
  nx : DSt → Gp → Prop
  rt : DK
  bk : DSt → Gp → Prop := fun _ _ => False
  ct : DSt → Gp → Prop := fun _ _ => False
noncomputable abbrev TS3 := Ends3 → DSt → Gp → Prop

noncomputable def FutE (K : PySem.W.Frag) (H : Hp) (q : DK) (Q : VK) : Prop := ∀ d G' v H', RelD K H' d v → Con K G' H' → Le H H' → q d G' → Q v H'
noncomputable def FutT (K : PySem.W.Frag) (H : Hp) (q : Bool → Gp → Prop) (Q : Bool → Hp → Prop) : Prop := ∀ b G' H', Con K G' H' → Le H H' → q b G' → Q b H'
noncomputable def FutA (K : PySem.W.Frag) (H : Hp) (q : List D → Gp → Prop) (Q : List V → Hp → Prop) : Prop := ∀ ds G' vs H', RelDs K H' ds vs → Con K G' H' → Le H H' → q ds G' → Q vs H'
noncomputable def FutS (K : PySem.W.Frag) (H : Hp) (q : DSt → Gp → Prop) (Q : St → Hp → Prop) : Prop := ∀ σd G' σ H', RelSt K H' σd σ → Con K G' H' → Le H H' → q σd G' → Q σ H'
theorem FutE.le {K : PySem.W.Frag} {H H1 : Hp} {q : DK} {Q : VK} (f : FutE K H q Q) (l : Le H H1) : FutE K H1 q Q := fun d G v H' r c l' => f d G v H' r c (l.trans l')
theorem FutS.le {K : PySem.W.Frag} {H H1 : Hp} {q : DSt → Gp → Prop} {Q : St → Hp → Prop} (f : FutS K H q Q) (l : Le H H1) : FutS K H1 q Q := fun d G v H' r c l' => f d G v H' r c (l.trans l')
structure FutD (K : PySem.W.Frag) (H : Hp) (d : Ends3) (D : Ends) : Prop where
  nx : FutS K H d.nx D.nx
  rt : FutE K H d.rt D.rt
  bk : FutS K H d.bk D.bk
  ct : FutS K H d.ct D.ct
theorem FutD.le {K : PySem.W.Frag} {H H1 : Hp} {d : Ends3} {D : Ends} (f : FutD K H d D) (l : Le H H1) : FutD K H1 d D := ⟨f.nx.le l, f.rt.le l, f.bk.le l, f.ct.le l⟩

noncomputable def lowE (K : PySem.W.Frag) (t : TE3) : TE := fun σ H Q => ∃ σd G q, RelSt K H σd σ ∧ Con K G H ∧ t σd G q ∧ FutE K H q Q
noncomputable def lowT (K : PySem.W.Frag) (t : TT3) : TT := fun σ H Q => ∃ σd G q, RelSt K H σd σ ∧ Con K G H ∧ t σd G q ∧ FutT K H q Q
noncomputable def lowA (K : PySem.W.Frag) (t : TA3) : TA := fun σ H Q => ∃ σd G q, RelSt K H σd σ ∧ Con K G H ∧ t σd G q ∧ FutA K H q Q
noncomputable def lowS (K : PySem.W.Frag) (t : TS3) : TS := fun D σ H => ∃ σd G d, RelSt K H σd σ ∧ Con K G H ∧ t d σd G ∧ FutD K H d D
noncomputable abbrev R3 := D → D → Gp → DK → Prop
noncomputable def lowR (K : PySem.W.Frag) (r : R3) : R2 := fun x y H Q => ∃ d e G q, RelD K H d x ∧ RelD K H e y ∧ Con K G H ∧ r d e G q ∧ FutE K H q Q
noncomputable abbrev U3 := D → Gp → DK → Prop
noncomputable def lowU (K : PySem.W.Frag) (r : U3) : V → Hp → VK → Prop := fun x H Q => ∃ d G q, RelD K H d x ∧ Con K G H ∧ r d G q ∧ FutE K H q Q
noncomputable abbrev C3 := List D → Gp → DK → Prop
noncomputable def lowC (K : PySem.W.Frag) (r : C3) : List V → Hp → VK → Prop := fun xs H Q => ∃ ds G q, RelDs K H ds xs ∧ Con K G H ∧ r ds G q ∧ FutE K H q Q

/-! ### expressions -/
noncomputable def dVar (i : Nat) : TE3 := fun σ G q => match σ[i]? with | some (some d) => q d G | _ => False
noncomputable def dC (d : D) : TE3 := fun _ G q => q d G
noncomputable def dOp (r : R3) (ta tb : TE3) : TE3 := fun σ G q => ta σ G fun x G1 => tb σ G1 fun y G2 => r x y G2 q
noncomputable def dUn (r : U3) (ta : TE3) : TE3 := fun σ G q => ta σ G fun x G1 => r x G1 q
noncomputable def dNil : TA3 := fun _ G q => q [] G
noncomputable def dCons (ta : TE3) (tr : TA3) : TA3 := fun σ G q => ta σ G fun x G1 => tr σ G1 fun xs G2 => q (x :: xs) G2
noncomputable def dTup (t : TA3) : TE3 := fun σ G q => t σ G fun xs G1 => xs.length ≤ sizeLine ∧ q (.tup xs) G1
noncomputable def dLst (t : TA3) : TE3 := fun σ G q => t σ G fun xs G1 => xs.length ≤ sizeLine ∧ ∀ p, G1 p = none → q (.ref p) (gup G1 p (.lst xs))
noncomputable def dB (t : TE3) : TT3 := fun σ G q => t σ G fun x G1 => match x with | .bl c => q c G1 | _ => False
noncomputable def dAnd (t u : TT3) : TT3 := fun σ G q => t σ G fun c G1 => if c = true then u σ G1 q else q false G1
noncomputable def dOr (t u : TT3) : TT3 := fun σ G q => t σ G fun c G1 => if c = true then q true G1 else u σ G1 q
noncomputable def dNot (t : TT3) : TT3 := fun σ G q => t σ G fun c G1 => q (!c) G1
noncomputable def dAndV (ta tb : TE3) : TE3 := fun σ G q => ta σ G fun x G1 => match x with | .bl c => if c = true then tb σ G1 q else q (.bl false) G1 | _ => False
noncomputable def dOrV (ta tb : TE3) : TE3 := fun σ G q => ta σ G fun x G1 => match x with | .bl c => if c = true then q (.bl true) G1 else tb σ G1 q | _ => False
noncomputable def dNotV (ta : TE3) : TE3 := fun σ G q => ta σ G fun x G1 => match x with | .bl c => q (.bl (!c)) G1 | _ => False
noncomputable def dIf (t : TT3) (ta tb : TE3) : TE3 := fun σ G q => t σ G fun c G1 => if c = true then ta σ G1 q else tb σ G1 q

section
variable {K : PySem.W.Frag} {σ : St} {H : Hp} {Q : VK}
theorem low_var {i : Nat} (h : lowE K (dVar i) σ H Q) : tVar i σ H Q := by
  obtain ⟨σd, G, q, rs, c, t, f⟩ := h
  unfold dVar at t
  split at t
  · rename_i d e
    obtain ⟨v, hv, r⟩ := rs.2 i d e
    exact ⟨v, hv, f d G v H r c (Le.refl H) t⟩
  · exact t.elim
theorem low_c {d : D} {v : V} (r : ∀ H, RelD K H d v) (h : lowE K (dC d) σ H Q) : tC v σ H Q := by
  obtain ⟨σd, G, q, rs, c, t, f⟩ := h
  exact f d G v H (r H) c (Le.refl H) t
theorem low_op {r : R3} {ta tb : TE3} (h : lowE K (dOp r ta tb) σ H Q) : tOp (lowR K r) (lowE K ta) (lowE K tb) σ H Q := by
  obtain ⟨σd, G, q, rs, c, t, f⟩ := h
  exact ⟨σd, G, _, rs, c, t, fun d G1 v H1 r1 c1 l1 t1 => ⟨σd, G1, _, rs.le l1, c1, t1, fun e G2 u H2 r2 c2 l2 t2 => ⟨d, e, G2, q, RelD.le l2 r1, r2, c2, t2, f.le (l1.trans l2)⟩⟩⟩
theorem low_un {r : U3} {ta : TE3} (h : lowE K (dUn r ta) σ H Q) : tUn (lowU K r) (lowE K ta) σ H Q := by
  obtain ⟨σd, G, q, rs, c, t, f⟩ := h
  exact ⟨σd, G, _, rs, c, t, fun d G1 v H1 r1 c1 l1 t1 => ⟨d, G1, q, r1, c1, t1, f.le l1⟩⟩
theorem low_nil {Q : List V → Hp → Prop} (h : lowA K dNil σ H Q) : tNil σ H Q := by
  obtain ⟨σd, G, q, rs, c, t, f⟩ := h
  exact f [] G [] H .nil c (Le.refl H) t
theorem low_cons {ta : TE3} {tr : TA3} {Q : List V → Hp → Prop} (h : lowA K (dCons ta tr) σ H Q) : tCons (lowE K ta) (lowA K tr) σ H Q := by
  obtain ⟨σd, G, q, rs, c, t, f⟩ := h
  exact ⟨σd, G, _, rs, c, t, fun d G1 v H1 r1 c1 l1 t1 => ⟨σd, G1, _, rs.le l1, c1, t1, fun ds G2 vs H2 r2 c2 l2 t2 => f (d :: ds) G2 (v :: vs) H2 (.cons (RelD.le l2 r1) r2) c2 (l1.trans l2) t2⟩⟩
theorem low_tup {ta : TA3} (h : lowE K (dTup ta) σ H Q) : tTup (lowA K ta) σ H Q := by
  obtain ⟨σd, G, q, rs, c, t, f⟩ := h
  refine ⟨σd, G, _, rs, c, t, fun ds G1 vs H1 r1 c1 l1 t1 => ⟨by rw [← r1.length]; exact t1.1, fun p hp => ?_⟩⟩
  refine f (.tup ds) G1 (.ref p) _ ?_ (c1.side hp) (l1.trans (Le.fresh hp)) t1.2
  rw [RelD]
  exact ⟨p, vs, rfl, SqT.of upd_same, RelDs.le (Le.fresh hp) r1⟩
theorem low_lst {ta : TA3} (h : lowE K (dLst ta) σ H Q) : tLst (lowA K ta) σ H Q := by
  obtain ⟨σd, G, q, rs, c, t, f⟩ := h
  refine ⟨σd, G, _, rs, c, t, fun ds G1 vs H1 r1 c1 l1 t1 => ⟨by rw [← r1.length]; exact t1.1, fun p hp => ?_⟩⟩
  exact f (.ref p) _ (.ref p) _ (by rw [RelD]) (c1.lstNew hp r1) (l1.trans (Le.fresh hp)) (t1.2 p (c1.fresh hp))
theorem RelD.bl_inv {c : Bool} {v : V} (h : RelD K H (.bl c) v) : v = .bl c := by rw [RelD] at h; exact h
theorem low_andT {t u : TT3} {Q : Bool → Hp → Prop} (h : lowT K (dAnd t u) σ H Q) : tAnd (lowT K t) (lowT K u) σ H Q := by
  obtain ⟨σd, G, q, rs, c, t, f⟩ := h
  refine ⟨σd, G, _, rs, c, t, fun b G1 H1 c1 l1 t1 => ?_⟩
  cases b with
  | true => rw [if_pos rfl] at t1 ⊢; exact ⟨σd, G1, q, rs.le l1, c1, t1, fun b G2 H2 c2 l2 t2 => f b G2 H2 c2 (l1.trans l2) t2⟩
  | false => rw [if_neg Bool.false_ne_true] at t1 ⊢; exact f _ _ _ c1 l1 t1
theorem low_orT {t u : TT3} {Q : Bool → Hp → Prop} (h : lowT K (dOr t u) σ H Q) : tOr (lowT K t) (lowT K u) σ H Q := by
  obtain ⟨σd, G, q, rs, c, t, f⟩ := h
  refine ⟨σd, G, _, rs, c, t, fun b G1 H1 c1 l1 t1 => ?_⟩
  cases b with
  | false => rw [if_neg Bool.false_ne_true] at t1 ⊢; exact ⟨σd, G1, q, rs.le l1, c1, t1, fun b G2 H2 c2 l2 t2 => f b G2 H2 c2 (l1.trans l2) t2⟩
  | true => rw [if_pos rfl] at t1 ⊢; exact f _ _ _ c1 l1 t1
theorem low_notT {t : TT3} {Q : Bool → Hp → Prop} (h : lowT K (dNot t) σ H Q) : tNot (lowT K t) σ H Q := by
  obtain ⟨σd, G, q, rs, c, t, f⟩ := h
  exact ⟨σd, G, _, rs, c, t, fun b G1 H1 c1 l1 t1 => f _ _ _ c1 l1 t1⟩
end
end L3
namespace L3
open PySem L2
set_option maxHeartbeats 4000000
/-! ### statements -/
noncomputable def dNext : TS3 := fun E σ G => E.nx σ G
/-- a reading stops here -/
noncomputable def Go (k : DSt → Gp → Prop) (σ : DSt) (G : Gp) : Prop := k σ G
noncomputable def dSeq (t u : TS3) : TS3 := fun E σ G => t { E with nx := Go (u E) } σ G
noncomputable def dDrop (te : TE3) : TS3 := fun E σ G => te σ G fun _ G1 => E.nx σ G1
noncomputable def dRet (te : TE3) : TS3 := fun E σ G => te σ G E.rt
noncomputable def dRetN : TS3 := fun E _ G => E.rt .non G
noncomputable def dIfS (c : TT3) (t u : TS3) : TS3 := fun E σ G => c σ G fun b G1 => if b = true then t E σ G1 else u E σ G1
noncomputable abbrev TG3 := D → DSt → Gp → (DSt → Gp → Prop) → Prop
noncomputable abbrev TGs3 := List D → DSt → Gp → (DSt → Gp → Prop) → Prop
noncomputable def lowG (K : PySem.W.Frag) (t : TG3) : TG := fun v σ H Q => ∃ d σd G q, RelD K H d v ∧ RelSt K H σd σ ∧ Con K G H ∧ t d σd G q ∧ FutS K H q Q
noncomputable def lowGs (K : PySem.W.Frag) (t : TGs3) : TGs := fun vs σ H Q => ∃ ds σd G q, RelDs K H ds vs ∧ RelSt K H σd σ ∧ Con K G H ∧ t ds σd G q ∧ FutS K H q Q
noncomputable def jName (i : Nat) : TG3 := fun d σ G q => q (σ.set i (some d)) G
noncomputable def jNil : TGs3 := fun ds σ G q => ds = [] ∧ q σ G
noncomputable def jCons (t : TG3) (u : TGs3) : TGs3 := fun ds σ G q => match ds with | d :: r => t d σ G fun σ' G' => u r σ' G' q | [] => False
noncomputable abbrev TSet3 := D → D → D → Gp → (Gp → Prop) → Prop
noncomputable def lowSet (K : PySem.W.Frag) (t : TSet3) : TSet := fun o i v H Q => ∃ d e x G q, RelD K H d o ∧ RelD K H e i ∧ RelD K H x v ∧ Con K G H ∧ t d e x G q ∧ ∀ G' H', Con K G' H' → Le H H' → q G' → Q H'
noncomputable def jSub (to ti : TE3) (t : TSet3) : TG3 := fun d σ G q => to σ G fun o G1 => ti σ G1 fun i G2 => t o i d G2 fun G3 => q σ G3
noncomputable def dAsg (te : TE3) (g : TG3) : TS3 := fun E σ G => te σ G fun x G1 => g x σ G1 E.nx

section
variable {K : PySem.W.Frag} {σ : St} {H : Hp} {E : Ends}
theorem low_next (h : lowS K dNext E σ H) : tNext E σ H := by
  obtain ⟨σd, G, d, rs, c, t, f⟩ := h
  exact f.nx _ _ _ _ rs c (Le.refl H) t
theorem low_seq {t u : TS3} (h : lowS K (dSeq t u) E σ H) : tSeq (lowS K t) (lowS K u) E σ H := by
  obtain ⟨σd, G, d, rs, c, t, f⟩ := h
  exact ⟨σd, G, _, rs, c, t, fun σd' G' σ' H' rs' c' l' t' => ⟨σd', G', d, rs', c', t', f.le l'⟩, f.rt, f.bk, f.ct⟩
theorem low_drop {te : TE3} (h : lowS K (dDrop te) E σ H) : tDrop (lowE K te) E σ H := by
  obtain ⟨σd, G, d, rs, c, t, f⟩ := h
  exact ⟨σd, G, _, rs, c, t, fun x G1 v H1 r1 c1 l1 t1 => f.nx _ _ _ _ (rs.le l1) c1 l1 t1⟩
theorem low_ret {te : TE3} (h : lowS K (dRet te) E σ H) : tRet (lowE K te) E σ H := by
  obtain ⟨σd, G, d, rs, c, t, f⟩ := h
  exact ⟨σd, G, _, rs, c, t, f.rt⟩
theorem low_ifS {tc : TT3} {t u : TS3} (h : lowS K (dIfS tc t u) E σ H) : tIfS (lowT K tc) (lowS K t) (lowS K u) E σ H := by
  obtain ⟨σd, G, d, rs, c, t, f⟩ := h
  refine ⟨σd, G, _, rs, c, t, fun b G1 H1 c1 l1 t1 => ?_⟩
  cases b with
  | true => rw [if_pos rfl] at t1 ⊢; exact ⟨σd, G1, d, rs.le l1, c1, t1, f.le l1⟩
  | false => rw [if_neg Bool.false_ne_true] at t1 ⊢; exact ⟨σd, G1, d, rs.le l1, c1, t1, f.le l1⟩
theorem low_jName {i : Nat} {v : V} {Q : St → Hp → Prop} (h : lowG K (jName i) v σ H Q) : gName i v σ H Q := by
  obtain ⟨d, σd, G, q, r, rs, c, t, f⟩ := h
  exact f _ _ _ _ (rs.set i r) c (Le.refl H) t
theorem low_jNil {vs : List V} {Q : St → Hp → Prop} (h : lowGs K jNil vs σ H Q) : gNil vs σ H Q := by
  obtain ⟨ds, σd, G, q, r, rs, c, ⟨e, t⟩, f⟩ := h
  subst e
  exact ⟨r.inv_nil, f _ _ _ _ rs c (Le.refl H) t⟩
theorem low_jCons {t : TG3} {u : TGs3} {vs : List V} {Q : St → Hp → Prop} (h : lowGs K (jCons t u) vs σ H Q) : gCons (lowG K t) (lowGs K u) vs σ H Q := by
  obtain ⟨ds, σd, G, q, r, rs, c, t, f⟩ := h
  cases ds with
  | nil => exact t.elim
  | cons d ds =>
    obtain ⟨x, xs, rfl, r1, r2⟩ := r.inv_cons
    exact ⟨x, xs, rfl, d, σd, G, _, r1, rs, c, t, fun σd' G' σ' H' rs' c' l' t' => ⟨ds, σd', G', q, RelDs.le l' r2, rs', c', t', f.le l'⟩⟩
theorem low_jSub {to ti : TE3} {t : TSet3} {v : V} {Q : St → Hp → Prop} (h : lowG K (jSub to ti t) v σ H Q) : gSub (lowE K to) (lowE K ti) (lowSet K t) v σ H Q := by
  obtain ⟨d, σd, G, q, r, rs, c, t, f⟩ := h
  exact ⟨σd, G, _, rs, c, t, fun o G1 vo H1 r1 c1 l1 t1 => ⟨σd, G1, _, rs.le l1, c1, t1, fun i G2 vi H2 r2 c2 l2 t2 => ⟨o, i, d, G2, _, RelD.le l2 r1, r2, RelD.le (l1.trans l2) r, c2, t2, fun G3 H3 c3 l3 t3 =>
    f _ _ _ _ (rs.le (l1.trans (l2.trans l3))) c3 (l1.trans (l2.trans l3)) t3⟩⟩⟩
theorem low_asg {te : TE3} {g : TG3} (h : lowS K (dAsg te g) E σ H) : tAsg (lowE K te) (lowG K g) E σ H := by
  obtain ⟨σd, G, d, rs, c, t, f⟩ := h
  exact ⟨σd, G, _, rs, c, t, fun x G1 v H1 r1 c1 l1 t1 => ⟨x, σd, G1, _, r1, rs.le l1, c1, t1, f.nx.le l1⟩⟩
end

/-! ### while -/
noncomputable def whN (c : TT3) (tb : TS3) (E : Ends3) : Nat → DSt → Gp → Prop
  | 0, _, _ => False
  | n + 1, σ, G => c σ G fun b G1 => if b = true then tb { E with nx := whN c tb E n, ct := whN c tb E n, bk := E.nx } σ G1 else E.nx σ G1
noncomputable def dWhile (c : TT3) (tb : TS3) : TS3 := fun E σ G => ∃ n, whN c tb E n σ G
theorem low_while {K : PySem.W.Frag} {c : TT3} {tb : TS3} {σ : St} {H : Hp} {E : Ends} (h : lowS K (dWhile c tb) E σ H) : tWhile (lowT K c) (lowS K tb) E σ H := by
  obtain ⟨σd, G, d, rs, cc, ⟨n, t⟩, f⟩ := h
  refine ⟨fun m σ' H' => ∃ σd' G', Le H H' ∧ RelSt K H' σd' σ' ∧ Con K G' H' ∧ whN c tb d m σd' G', ⟨n, σd, G, Le.refl H, rs, cc, t⟩, ?_⟩
  rintro m σ1 H1 ⟨σd1, G1, l1, rs1, c1, t1⟩
  cases m with
  | zero => exact t1.elim
  | succ m =>
    refine ⟨σd1, G1, _, rs1, c1, t1, fun b G2 H2 c2 l2 t2 => ?_⟩
    cases b with
    | true =>
      rw [if_pos rfl] at t2 ⊢
      refine ⟨fun σ' H' => ∃ σd' G', Le H H' ∧ RelSt K H' σd' σ' ∧ Con K G' H' ∧ whN c tb d m σd' G', fun σ' H' w => ⟨m, Nat.lt_succ_self m, w⟩, σd1, G2, _, rs1.le l2, c2, t2, ?_, ?_, ?_, ?_⟩
      · exact fun σd3 G3 σ3 H3 rs3 c3 l3 t3 => ⟨σd3, G3, l1.trans (l2.trans l3), rs3, c3, t3⟩
      · exact f.rt.le (l1.trans l2)
      · exact f.nx.le (l1.trans l2)
      · exact fun σd3 G3 σ3 H3 rs3 c3 l3 t3 => ⟨σd3, G3, l1.trans (l2.trans l3), rs3, c3, t3⟩
    | false =>
      rw [if_neg Bool.false_ne_true] at t2 ⊢
      exact f.nx _ _ _ _ (rs1.le l2) c2 (l1.trans l2) t2

/-! ### for -/
/-- what is walked: its items; the list (if it is one) that must stay as it is -/
structure IT where
  items : List D
  ok : Gp → Prop
structure ItRel (K : PySem.W.Frag) (H0 : Hp) (it : IT) (J : It) : Prop where
  go : ∀ (i : Nat) G H, Le H0 H → Con K G H → it.ok G → i < it.items.length → J.go i H
  stop : ∀ (i : Nat) G H, Le H0 H → Con K G H → it.ok G → it.items.length ≤ i → J.stop i H
  yld : ∀ (i : Nat) G H x H', Le H0 H → Con K G H → it.ok G → i < it.items.length → J.yld i H x H' → Con K G H' ∧ Le H H' ∧ ∃ d, it.items[i]? = some d ∧ RelD K H' d x
noncomputable abbrev TI3 := DSt → Gp → (IT → Gp → Prop) → Prop
noncomputable def lowI (K : PySem.W.Frag) (t : TI3) : TI := fun σ H R => ∃ σd G r, RelSt K H σd σ ∧ Con K G H ∧ t σd G r ∧ ∀ it J G' H', ItRel K H' it J → Con K G' H' → Le H H' → r it G' → R J H'
noncomputable def forL (ok : Gp → Prop) (g : TG3) (tb : TS3) (E : Ends3) : List D → DSt → Gp → Prop
  | [], σ, G => ok G ∧ E.nx σ G
  | x :: r, σ, G => ok G ∧ g x σ G fun σ1 G1 => tb { E with nx := forL ok g tb E r, ct := forL ok g tb E r, bk := E.nx } σ1 G1
noncomputable def dFor (wi : TI3) (g : TG3) (tb : TS3) : TS3 := fun E σ G => wi σ G fun it G1 => forL it.ok g tb E it.items σ G1
theorem low_for {K : PySem.W.Frag} {wi : TI3} {g : TG3} {tb : TS3} {σ : St} {H : Hp} {E : Ends} (h : lowS K (dFor wi g tb) E σ H) : tFor (lowI K wi) (lowG K g) (lowS K tb) E σ H := by
  obtain ⟨σd, G, d, rs, cc, t, f⟩ := h
  refine ⟨σd, G, _, rs, cc, t, fun it J G1 H1 ir c1 l1 t1 => ?_⟩
  refine ⟨fun i m σ' H' => ∃ σd' G', Le H1 H' ∧ RelSt K H' σd' σ' ∧ Con K G' H' ∧ i + m = it.items.length ∧ forL it.ok g tb d (it.items.drop i) σd' G', ⟨it.items.length, σd, G1, Le.refl _, rs.le l1, c1, by omega, by rw [List.drop_zero]; exact t1⟩, ?_⟩
  rintro i m σ2 H2 ⟨σd2, G2, l2, rs2, c2, e2, t2⟩
  by_cases hi : i < it.items.length
  · rw [List.drop_eq_getElem_cons hi] at t2
    obtain ⟨ok2, t2⟩ := t2
    refine .inr ⟨ir.go i G2 H2 l2 c2 ok2 hi, fun σ' H' => ∃ σd' G', Le H1 H' ∧ RelSt K H' σd' σ' ∧ Con K G' H' ∧ forL it.ok g tb d (it.items.drop (i + 1)) σd' G', ?_, ?_⟩
    · rintro σ' H' ⟨σd', G', a1, a2, a3, a4⟩
      exact ⟨m - 1, by omega, σd', G', a1, a2, a3, by omega, a4⟩
    · intro x H3 y
      obtain ⟨c3, l3, e, he, r3⟩ := ir.yld i G2 H2 x H3 l2 c2 ok2 hi y
      rw [List.getElem?_eq_getElem hi] at he
      cases he
      refine ⟨_, σd2, G2, _, r3, rs2.le l3, c3, t2, fun σd4 G4 σ4 H4 rs4 c4 l4 t4 => ?_⟩
      have l14 : Le H1 H4 := l2.trans (l3.trans l4)
      have key : FutS K H4 (forL it.ok g tb d (it.items.drop (i + 1))) (fun σ' H' => ∃ σd' G', Le H1 H' ∧ RelSt K H' σd' σ' ∧ Con K G' H' ∧ forL it.ok g tb d (it.items.drop (i + 1)) σd' G') :=
        fun σd5 G5 σ5 H5 rs5 c5 l5 t5 => ⟨σd5, G5, l14.trans l5, rs5, c5, t5⟩
      exact ⟨σd4, G4, _, rs4, c4, t4, key, f.rt.le (l1.trans l14), f.nx.le (l1.trans l14), key⟩
  · rw [List.drop_eq_nil_of_le (by omega)] at t2
    exact .inl ⟨ir.stop i G2 H2 l2 c2 t2.1 (by omega), f.nx _ _ _ _ rs2 c2 (l1.trans l2) t2.2⟩

theorem RelDs.at_ {K : PySem.W.Frag} {H : Hp} {ds : List D} {xs : List V} {i : Nat} {x : V} (h : RelDs K H ds xs) (e : xs[i]? = some x) : ∃ d, ds[i]? = some d ∧ RelD K H d x := by
  have hl : i < ds.length := by rw [h.length]; exact (List.getElem?_eq_some_iff.mp e).1
  obtain ⟨y, hy, r⟩ := h.get (List.getElem?_eq_getElem hl)
  rw [e] at hy; cases hy
  exact ⟨_, List.getElem?_eq_getElem hl, r⟩
/-- the tuple, or the list, that is walked -/
theorem itrel_tup {K : PySem.W.Frag} {H0 : Hp} {a : Addr} {ds : List D} {xs : List V} (s : SqT K H0 a xs) (r : RelDs K H0 ds xs) : ItRel K H0 ⟨ds, fun _ => True⟩ (Itt K a) where
  go := fun i G H l c _ hi => ⟨xs, xs[i]'(by rw [← r.length]; exact hi), l.sqT s, List.getElem?_eq_getElem _⟩
  stop := fun i G H l c _ hi => ⟨xs, l.sqT s, by rw [← r.length]; exact hi⟩
  yld := fun i G H x H' l c _ hi y => by
    obtain ⟨e, y⟩ := y
    subst e
    have hx := y xs (l.sqT s)
    obtain ⟨d, hd, rd⟩ := (RelDs.le l r).at_ hx
    exact ⟨c, Le.refl _, d, hd, rd⟩
noncomputable def seqOf : Option DO → Option (List D)
  | some (.lst xs) => some xs
  | some (.fro xs) => some xs
  | _ => none
theorem sql_of {K : PySem.W.Frag} {G : Gp} {H : Hp} {a : Addr} {ds : List D} (c : Con K G H) (h : seqOf (G a) = some ds) : ∃ xs, SqL K H a xs ∧ RelDs K H ds xs := by
  cases e : G a with
  | none => rw [e] at h; cases h
  | some o =>
    rw [e] at h
    have q := c a o e
    cases o with
    | lst xs => cases h; obtain ⟨ys, q, r⟩ := q; exact ⟨ys, .inl (.inl q), r⟩
    | fro xs => cases h; obtain ⟨o, ys, q, r⟩ := q; exact ⟨ys, .inl (.inr ⟨o, q⟩), r⟩
    | dic _ => cases h
    | dit _ => cases h
    | ins _ _ => cases h
    | exc _ _ => cases h
theorem itrel_list {K : PySem.W.Frag} {H0 : Hp} {a : Addr} {ds : List D} : ItRel K H0 ⟨ds, fun G => seqOf (G a) = some ds⟩ (Itl K a) where
  go := fun i G H l c ok hi => by
    obtain ⟨xs, s, r⟩ := sql_of c ok
    exact ⟨xs, xs[i]'(by rw [← r.length]; exact hi), s, List.getElem?_eq_getElem _⟩
  stop := fun i G H l c ok hi => by
    obtain ⟨xs, s, r⟩ := sql_of c ok
    exact ⟨xs, s, by rw [← r.length]; exact hi⟩
  yld := fun i G H x H' l c ok hi y => by
    obtain ⟨e, y⟩ := y
    subst e
    obtain ⟨xs, s, r⟩ := sql_of c ok
    obtain ⟨d, hd, rd⟩ := r.at_ (y xs s)
    exact ⟨c, Le.refl _, d, hd, rd⟩
noncomputable def rngD (lo : Int) (n : Nat) : List D := (List.range n).map fun (i : Nat) => .int (lo + i)
theorem itrel_range {K : PySem.W.Frag} {H0 : Hp} {lo : Int} {n : Nat} : ItRel K H0 ⟨rngD lo n, fun _ => True⟩ (Itr lo n) where
  go := fun i G H l c _ hi => by
    have : i < n := by simpa [rngD] using hi
    exact this
  stop := fun i G H l c _ hi => by
    have : n ≤ i := by simpa [rngD] using hi
    exact this
  yld := fun i G H x H' l c _ hi y => by
    obtain ⟨e, y⟩ := y
    subst e; subst y
    refine ⟨c, Le.refl _, .int (lo + i), ?_, by rw [RelD]⟩
    have : i < n := by simpa [rngD] using hi
    simp [rngD, this]
end L3
namespace L3
open PySem L2
set_option maxHeartbeats 4000000
/-! ### calls -/
/-- a def's promise: R is sure of what comes back -/
noncomputable abbrev Sp3 := List D → Gp → DK → Prop
noncomputable def lowSp (K : PySem.W.Frag) (S : Sp3) : Sp := fun vs H Q _ => ∃ ds G R, RelDs K H ds vs ∧ Con K G H ∧ S ds G R ∧ FutE K H R Q
noncomputable def dCall (S : Sp3) (dds : List D) (t : TA3) : TE3 := fun σ G q => t σ G fun ds G1 => ∃ R, S (ds ++ dds) G1 R ∧ ∀ d G', R d G' → q d G'
noncomputable def dMeth (C : Addr) (m : Str) (S : Sp3) (dds : List D) (ta : TE3) (t : TA3) : TE3 := fun σ G q => ta σ G fun x G1 => match x with
  | .ref a => (match G1 a with
    | some (.ins C' fs) => C' = C ∧ fs.lookup m = none ∧ t σ G1 fun ds G2 => ∃ R, S (.ref a :: (ds ++ dds)) G2 R ∧ ∀ d G', R d G' → q d G'
    | _ => False)
  | _ => False
noncomputable def dMake (C : Addr) (S : Sp3) (dds : List D) (t : TA3) : TE3 := fun σ G q => t σ G fun ds G1 => ∀ x, G1 x = none →
  ∃ R, S (.ref x :: (ds ++ dds)) (gup G1 x (.ins C [])) R ∧ ∀ d G', R d G' → d = .non ∧ q (.ref x) G'
noncomputable def putD (f : Str) (v : D) : List (Str × D) → List (Str × D)
  | [] => [(f, v)]
  | (g, u) :: r => if g = f then (g, v) :: r else (g, u) :: putD f v r
noncomputable def dFld (C : Addr) (ta : TE3) (f : Str) : TE3 := fun σ G q => ta σ G fun x G1 => match x with
  | .ref a => (match G1 a with
    | some (.ins C' fs) => C' = C ∧ (match fs.lookup f with | some d => q d G1 | none => False)
    | _ => False)
  | _ => False
noncomputable def dSetF (C : Addr) (ta tv : TE3) (f : Str) : TS3 := fun E σ G => tv σ G fun y G1 => ta σ G1 fun x G2 => match x with
  | .ref a => (match G2 a with
    | some (.ins C' fs) => C' = C ∧ fs.length < 1000 ∧ E.nx σ (gup G2 a (.ins C (putD f y fs)))
    | _ => False)
  | _ => False
noncomputable def dAugF (C : Addr) (ta tv : TE3) (r : R3) (f : Str) : TS3 := fun E σ G => ta σ G fun x G1 => match x with
  | .ref a => (match G1 a with
    | some (.ins C' fs) => C' = C ∧ (match fs.lookup f with
      | some d => tv σ G1 fun y G2 => r d y G2 fun z G3 => (match G3 a with
        | some (.ins C'' fs') => C'' = C ∧ fs'.length < 1000 ∧ E.nx σ (gup G3 a (.ins C (putD f z fs')))
        | _ => False)
      | none => False)
    | _ => False)
  | _ => False
section
variable {K : PySem.W.Frag} {σ : St} {H : Hp} {Q : VK} {E : Ends}
theorem low_call {S : Sp3} {dds : List D} {dvs : List V} {t : TA3} {XE : XK} (hd : ∀ H, RelDs K H dds dvs) (h : lowE K (dCall S dds t) σ H Q) : tCall (lowSp K S) dvs XE (lowA K t) σ H Q := by
  obtain ⟨σd, G, q, rs, c, t, f⟩ := h
  exact ⟨σd, G, _, rs, c, t, fun ds G1 vs H1 r1 c1 l1 ⟨R, s1, t1⟩ => ⟨_, G1, R, r1.append (hd H1), c1, s1, fun d G2 v H2 r2 c2 l2 t2 => f d G2 v H2 r2 c2 (l1.trans l2) (t1 d G2 t2)⟩⟩
theorem RelD.refI {a : Addr} : RelD K H (.ref a) (.ref a) := by rw [RelD]
theorem RelD.ref_inv {a : Addr} {v : V} (h : RelD K H (.ref a) v) : v = .ref a := by rw [RelD] at h; exact h
theorem RelPs.lookup_none {κ : Type} [BEq κ] {k : κ} : ∀ {ps : List (κ × D)} {qs : List (κ × V)}, RelPs K H ps qs → ps.lookup k = none → qs.lookup k = none
  | [], qs, h, _ => by
    cases qs with
    | nil => rfl
    | cons _ _ => have := h.1; simp at this
  | (g, d) :: ps, qs, h, e => by
    cases qs with
    | nil => have := h.1; simp at this
    | cons q qs =>
      obtain ⟨g', v⟩ := q
      have h1 := h.1
      simp only [List.map_cons, List.cons.injEq] at h1
      obtain ⟨rfl, h1⟩ := h1
      obtain ⟨x, r, e2, _, h2⟩ := (show RelDs K H (d :: ps.map (·.2)) (v :: qs.map (·.2)) from h.2).inv_cons
      cases e2
      rw [List.lookup_cons] at e ⊢
      cases hk : k == g with
      | true => rw [hk] at e; cases e
      | false => rw [hk] at e; exact RelPs.lookup_none ⟨h1, h2⟩ e
theorem RelPs.lookup {κ : Type} [BEq κ] {k : κ} {d : D} : ∀ {ps : List (κ × D)} {qs : List (κ × V)}, RelPs K H ps qs → ps.lookup k = some d → ∃ v, qs.lookup k = some v ∧ RelD K H d v
  | [], qs, h, e => by cases e
  | (g, d') :: ps, qs, h, e => by
    cases qs with
    | nil => have := h.1; simp at this
    | cons q qs =>
      obtain ⟨g', v⟩ := q
      have h1 := h.1
      simp only [List.map_cons, List.cons.injEq] at h1
      obtain ⟨rfl, h1⟩ := h1
      obtain ⟨x, r, e2, r1, h2⟩ := (show RelDs K H (d' :: ps.map (·.2)) (v :: qs.map (·.2)) from h.2).inv_cons
      cases e2
      rw [List.lookup_cons] at e ⊢
      cases hk : k == g with
      | true => rw [hk] at e; cases e; exact ⟨v, rfl, r1⟩
      | false => rw [hk] at e; exact RelPs.lookup ⟨h1, h2⟩ e
theorem RelPs.nil {κ : Type} : RelPs (κ := κ) K H [] [] := ⟨rfl, .nil⟩
theorem RelPs.cons {κ : Type} {k : κ} {d : D} {v : V} {ps : List (κ × D)} {qs : List (κ × V)} (r : RelD K H d v) (h : RelPs K H ps qs) : RelPs K H ((k, d) :: ps) ((k, v) :: qs) :=
  ⟨by simp [h.1], .cons r h.2⟩
theorem RelPs.inv_cons {κ : Type} {k : κ} {d : D} {ps : List (κ × D)} {qs : List (κ × V)} (h : RelPs K H ((k, d) :: ps) qs) : ∃ v r, qs = (k, v) :: r ∧ RelD K H d v ∧ RelPs K H ps r := by
  cases qs with
  | nil => have := h.1; simp at this
  | cons q qs =>
    obtain ⟨g', v⟩ := q
    have h1 := h.1
    simp only [List.map_cons, List.cons.injEq] at h1
    obtain ⟨rfl, h1⟩ := h1
    obtain ⟨x, r, e2, r1, h2⟩ := (show RelDs K H (d :: ps.map (·.2)) (v :: qs.map (·.2)) from h.2).inv_cons
    cases e2
    exact ⟨v, qs, rfl, r1, h1, h2⟩
theorem RelPs.inv_nil {κ : Type} {qs : List (κ × V)} (h : RelPs K H [] qs) : qs = [] := by
  cases qs with
  | nil => rfl
  | cons _ _ => have := h.1; simp at this
theorem RelPs.length {κ : Type} {ps : List (κ × D)} {qs : List (κ × V)} (h : RelPs K H ps qs) : ps.length = qs.length := by
  have := h.2.length; simpa using this
theorem low_meth {C : Addr} {m : Str} {S : Sp3} {dds : List D} {dvs : List V} {ta : TE3} {t : TA3} {XE : XK} (hd : ∀ H, RelDs K H dds dvs) (h : lowE K (dMeth C m S dds ta t) σ H Q) : tMeth C m (lowSp K S) dvs XE (lowE K ta) (lowA K t) σ H Q := by
  obtain ⟨σd, G, q, rs, c, t, f⟩ := h
  refine ⟨σd, G, _, rs, c, t, fun x G1 v H1 r1 c1 l1 t1 => ?_⟩
  split at t1
  · rename_i a
    split at t1
    · rename_i C' fs e
      obtain ⟨rfl, n, t1⟩ := t1
      obtain ⟨dx, ys, e2, rf⟩ := c1 _ _ e
      refine ⟨a, dx, ys, r1.ref_inv, e2, rf.lookup_none n, σd, G1, _, rs.le l1, c1, t1, fun ds G2 vs H2 r2 c2 l2 ⟨R, s2, t2⟩ => ?_⟩
      exact ⟨_, G2, R, .cons (RelD.le l2 r1) (r2.append (hd H2)), c2, s2, fun d G3 v H3 r3 c3 l3 t3 => f d G3 v H3 r3 c3 (l1.trans (l2.trans l3)) (t2 d G3 t3)⟩
    · exact t1.elim
  · exact t1.elim
theorem low_b {te : TE3} {Q : Bool → Hp → Prop} (h : lowT K (dB te) σ H Q) : tB (lowE K te) σ H Q := by
  obtain ⟨σd, G, q, rs, c, t, f⟩ := h
  refine ⟨σd, G, _, rs, c, t, fun x G1 v H1 r1 c1 l1 t1 => ?_⟩
  split at t1
  · rename_i k
    exact ⟨k, r1.bl_inv, f _ _ _ c1 l1 t1⟩
  · exact t1.elim
theorem low_andV {ta tb : TE3} (h : lowE K (dAndV ta tb) σ H Q) : tAndV (lowE K ta) (lowE K tb) σ H Q := by
  obtain ⟨σd, G, q, rs, c, t, f⟩ := h
  refine ⟨σd, G, _, rs, c, t, fun x G1 v H1 r1 c1 l1 t1 => ?_⟩
  split at t1
  · rename_i k
    refine ⟨k, r1.bl_inv, ?_⟩
    cases k with
    | true => rw [if_pos rfl] at t1 ⊢; exact ⟨σd, G1, q, rs.le l1, c1, t1, f.le l1⟩
    | false => rw [if_neg Bool.false_ne_true] at t1 ⊢; exact f _ _ _ _ (by rw [RelD]) c1 l1 t1
  · exact t1.elim
theorem low_notV {ta : TE3} (h : lowE K (dNotV ta) σ H Q) : tNotV (lowE K ta) σ H Q := by
  obtain ⟨σd, G, q, rs, c, t, f⟩ := h
  refine ⟨σd, G, _, rs, c, t, fun x G1 v H1 r1 c1 l1 t1 => ?_⟩
  split at t1
  · rename_i k
    exact ⟨k, r1.bl_inv, f _ _ _ _ (by rw [RelD]) c1 l1 t1⟩
  · exact t1.elim
/-- x op= e -/
noncomputable def dAug (i : Nat) (te : TE3) (r : R3) : TS3 := fun E σ G => match σ[i]? with
  | some (some x) => te σ G fun y G1 => r x y G1 fun z G2 => E.nx (σ.set i (some z)) G2
  | _ => False
theorem low_aug {i : Nat} {te : TE3} {r : R3} (h : lowS K (dAug i te r) E σ H) : tAug i (lowE K te) (lowR K r) E σ H := by
  obtain ⟨σd, G, d, rs, c, t, fu⟩ := h
  unfold dAug at t
  split at t
  · rename_i x e
    obtain ⟨v, hv, r1⟩ := rs.2 i x e
    refine ⟨v, hv, σd, G, _, rs, c, t, fun y G1 u H1 r2 c1 l1 t1 => ?_⟩
    exact ⟨x, y, G1, _, RelD.le l1 r1, r2, c1, t1, fun z G2 vz H2 r3 c2 l2 t2 => fu.nx _ _ _ _ ((rs.le (l1.trans l2)).set i r3) c2 (l1.trans l2) t2⟩
  · exact t.elim
/-! ### slices, built-in calls and methods -/
noncomputable abbrev TO3 := DSt → Gp → (Option Int → Gp → Prop) → Prop
noncomputable def lowO (K : PySem.W.Frag) (t : TO3) : TO := fun σ H Q => ∃ σd G q, RelSt K H σd σ ∧ Con K G H ∧ t σd G q ∧ ∀ o G' H', Con K G' H' → Le H H' → q o G' → Q o H'
noncomputable def dNoPart : TO3 := fun _ G q => q none G
noncomputable def dPart (t : TE3) : TO3 := fun σ G q => t σ G fun x G1 => match x with | .int i => q (some i) G1 | _ => False
theorem low_noPart {Q : Option Int → Hp → Prop} (h : lowO K dNoPart σ H Q) : tNoPart σ H Q := by
  obtain ⟨σd, G, q, rs, c, t, f⟩ := h
  exact f _ _ _ c (Le.refl H) t
theorem low_part {t : TE3} {Q : Option Int → Hp → Prop} (h : lowO K (dPart t) σ H Q) : tPart (lowE K t) σ H Q := by
  obtain ⟨σd, G, q, rs, c, t, f⟩ := h
  refine ⟨σd, G, _, rs, c, t, fun x G1 v H1 r1 c1 l1 t1 => ?_⟩
  split at t1
  · rename_i k
    rw [RelD] at r1
    exact ⟨k, r1, f _ _ _ c1 l1 t1⟩
  · exact t1.elim
noncomputable abbrev RS3 := D → Option Int → Option Int → Gp → DK → Prop
noncomputable def lowRS (K : PySem.W.Frag) (r : RS3) : V → Option Int → Option Int → Hp → VK → Prop := fun x l u H Q => ∃ d G q, RelD K H d x ∧ Con K G H ∧ r d l u G q ∧ FutE K H q Q
noncomputable def dSl (r : RS3) (te : TE3) (tl th : TO3) : TE3 := fun σ G q => te σ G fun x G1 => tl σ G1 fun l G2 => th σ G2 fun u G3 => r x l u G3 q
theorem low_sl {r : RS3} {te : TE3} {tl th : TO3} (h : lowE K (dSl r te tl th) σ H Q) : tSl (lowRS K r) (lowE K te) (lowO K tl) (lowO K th) σ H Q := by
  obtain ⟨σd, G, q, rs, c, t, f⟩ := h
  exact ⟨σd, G, _, rs, c, t, fun x G1 v H1 r1 c1 l1 t1 => ⟨σd, G1, _, rs.le l1, c1, t1, fun o G2 H2 c2 l2 t2 => ⟨σd, G2, _, rs.le (l1.trans l2), c2, t2, fun u G3 H3 c3 l3 t3 =>
    ⟨x, G3, q, RelD.le (l2.trans l3) r1, c3, t3, f.le (l1.trans (l2.trans l3))⟩⟩⟩⟩
noncomputable def dCB (r : C3) (t : TA3) : TE3 := fun σ G q => t σ G fun ds G1 => r ds G1 q
theorem low_cb {r : C3} {t : TA3} (h : lowE K (dCB r t) σ H Q) : tCB (lowC K r) (lowA K t) σ H Q := by
  obtain ⟨σd, G, q, rs, c, t, f⟩ := h
  exact ⟨σd, G, _, rs, c, t, fun ds G1 vs H1 r1 c1 l1 t1 => ⟨ds, G1, q, r1, c1, t1, f.le l1⟩⟩
/-- a method of a built-in: of the object and the arguments -/
noncomputable abbrev M3 := D → List D → Gp → DK → Prop
noncomputable def lowM (K : PySem.W.Frag) (r : M3) : V → List V → Hp → VK → Prop := fun x xs H Q => ∃ d ds G q, RelD K H d x ∧ RelDs K H ds xs ∧ Con K G H ∧ r d ds G q ∧ FutE K H q Q
noncomputable def tyD (G : Gp) (T : String) : D → Prop
  | .str _ => T = "str"
  | .int _ => T = "int"
  | .ref a => match G a with
    | some (.lst _) => T = "list"
    | some (.fro _) => T = "list"
    | some (.dic _) => T = "dict"
    | _ => False
  | _ => False
noncomputable def dBM (T : String) (r : M3) (to : TE3) (t : TA3) : TE3 := fun σ G q => to σ G fun x G1 => tyD G1 T x ∧ t σ G1 fun ds G2 => r x ds G2 q
noncomputable def dBM0 (T : String) (r : M3) (to : TE3) : TE3 := fun σ G q => to σ G fun x G1 => tyD G1 T x ∧ r x [] G1 q
theorem low_bm {T : String} {r : M3} {to : TE3} {t : TA3} (ty : ∀ G H x v, Con K G H → RelD K H x v → tyD G T x → tyV K T v H) (h : lowE K (dBM T r to t) σ H Q) : tBM K T (lowM K r) (lowE K to) (lowA K t) σ H Q := by
  obtain ⟨σd, G, q, rs, c, t, f⟩ := h
  exact ⟨σd, G, _, rs, c, t, fun x G1 v H1 r1 c1 l1 ⟨y, t1⟩ => ⟨ty G1 H1 x v c1 r1 y, σd, G1, _, rs.le l1, c1, t1, fun ds G2 vs H2 r2 c2 l2 t2 => ⟨x, ds, G2, q, RelD.le l2 r1, r2, c2, t2, f.le (l1.trans l2)⟩⟩⟩
theorem low_bm0 {T : String} {r : M3} {to : TE3} (ty : ∀ G H x v, Con K G H → RelD K H x v → tyD G T x → tyV K T v H) (h : lowE K (dBM0 T r to) σ H Q) : tBM0 K T (lowM K r) (lowE K to) σ H Q := by
  obtain ⟨σd, G, q, rs, c, t, f⟩ := h
  exact ⟨σd, G, _, rs, c, t, fun x G1 v H1 r1 c1 l1 ⟨y, t1⟩ => ⟨ty G1 H1 x v c1 r1 y, x, [], G1, q, r1, .nil, c1, t1, f.le l1⟩⟩
/-! ### what is walked -/
end
end L3

namespace L3
open PySem PySem.Spec PyProof.Rows L2
set_option maxHeartbeats 4000000
/-! ### the judgements -/
section
variable {X : Cx}
theorem weakE {e : Expr} {t t' : TE} (h : PE X e t) (w : ∀ σ H Q, t' σ H Q → t σ H Q) : PE X e t' := fun pins s σ H Q I q => h pins s σ H Q I (w _ _ _ q)
theorem weakT {e : Expr} {t t' : TT} (h : PT X e t) (w : ∀ σ H Q, t' σ H Q → t σ H Q) : PT X e t' := fun pins s σ H Q I q => h pins s σ H Q I (w _ _ _ q)
theorem weakW {e : Expr} {t t' : TT} (h : PW X e t) (w : ∀ σ H Q, t' σ H Q → t σ H Q) : PW X e t' := fun wh pins s σ H Q I q => h wh pins s σ H Q I (w _ _ _ q)
theorem weakA {e : List Expr} {t t' : TA} (h : PA X e t) (w : ∀ σ H Q, t' σ H Q → t σ H Q) : PA X e t' := fun pos pins s σ H Q I q => h pos pins s σ H Q I (w _ _ _ q)
theorem weakS {e : Stmt} {t t' : TS} (h : PS X e t) (w : ∀ D σ H, t' D σ H → t D σ H) : PS X e t' := fun pins s σ H D I q => h pins s σ H D I (w _ _ _ q)
theorem weakSs {e : List Stmt} {t t' : TS} (h : PSs X e t) (w : ∀ D σ H, t' D σ H → t D σ H) : PSs X e t' := fun pins s σ H D I q => h pins s σ H D I (w _ _ _ q)
theorem weakG {e : Expr} {t t' : TG} (h : PG X e t) (w : ∀ v σ H Q, t' v σ H Q → t v σ H Q) : PG X e t' := fun pins s σ H v u Q I r q => h pins s σ H v u Q I r (w _ _ _ _ q)
theorem weakGs {e : List Expr} {t t' : TGs} (h : PGs X e t) (w : ∀ v σ H Q, t' v σ H Q → t v σ H Q) : PGs X e t' := fun pins s σ H v u Q I r q => h pins s σ H v u Q I r (w _ _ _ _ q)
theorem weakSet {t t' : TSet} (h : PSet X t) (w : ∀ o i v H Q, t' o i v H Q → t o i v H Q) : PSet X t' := fun pins s σ H o i v ov iv u Q I r1 r2 r3 q => h pins s σ H o i v ov iv u Q I r1 r2 r3 (w _ _ _ _ _ q)
theorem weakI {tg e : Expr} {t t' : TI} (h : PI X tg e t) (w : ∀ σ H R, t' σ H R → t σ H R) : PI X tg e t' := fun pins s σ H R I q => h pins s σ H R I (w _ _ _ q)
theorem weakOp {f : Value → Value → Sem Value} {r r' : R2} (h : OpR X f r) (w : ∀ x y H Q, r' x y H Q → r x y H Q) : OpR X f r' := fun pins s σ H x y v u Q I a b q => h pins s σ H x y v u Q I a b (w _ _ _ _ q)
theorem weakUn {f : Value → Sem Value} {r r' : V → Hp → VK → Prop} (h : UnR X f r) (w : ∀ x H Q, r' x H Q → r x H Q) : UnR X f r' := fun pins s σ H x v Q I a q => h pins s σ H x v Q I a (w _ _ _ q)
theorem weakCall {f : Value} {r r' : List V → Hp → VK → Prop} (h : CallR X f r) (w : ∀ x H Q, r' x H Q → r x H Q) : CallR X f r' := fun pins s σ H x v Q I a q => h pins s σ H x v Q I a (w _ _ _ q)
theorem weakMt {id : String} {r r' : V → List V → Hp → VK → Prop} (h : MtR X id r) (w : ∀ x xs H Q, r' x xs H Q → r x xs H Q) : MtR X id r' := fun pins s σ H x xs v us Q I a b q => h pins s σ H x xs v us Q I a b (w _ _ _ _ q)
theorem weakIx {r r' : R2} (h : IxR X r) (w : ∀ x y H Q, r' x y H Q → r x y H Q) : IxR X r' := fun va sl pins s σ H x y v u Q I a b q => h va sl pins s σ H x y v u Q I a b (w _ _ _ _ q)
theorem weakSl {r r' : V → Option Int → Option Int → Hp → VK → Prop} (h : SlR X r) (w : ∀ x l u H Q, r' x l u H Q → r x l u H Q) : SlR X r' := by
  intro pins s σ H x lo hi
  intros
  apply h <;> first | assumption | (apply w; assumption)
theorem weakO {e : Option Expr} {t t' : TO} (h : PO X e t) (w : ∀ σ H Q, t' σ H Q → t σ H Q) : PO X e t' := by
  intro pins s σ H Q I q
  exact h pins s σ H Q I (w _ _ _ q)
theorem weakIfs {e : List Expr} {t t' : TT} (h : PIfs X e t) (w : ∀ σ H Q, t' σ H Q → t σ H Q) : PIfs X e t' := fun pins s σ H Q I q => h pins s σ H Q I (w _ _ _ q)
end
noncomputable def E3 (X : Cx) (e : Expr) (t : TE3) : Prop := PE X e (lowE X.K t)
noncomputable def T3 (X : Cx) (e : Expr) (t : TT3) : Prop := PT X e (lowT X.K t)
noncomputable def W3 (X : Cx) (e : Expr) (t : TT3) : Prop := PW X e (lowT X.K t)
noncomputable def A3 (X : Cx) (es : List Expr) (t : TA3) : Prop := PA X es (lowA X.K t)
noncomputable def S3 (X : Cx) (st : Stmt) (t : TS3) : Prop := PS X st (lowS X.K t)
noncomputable def Ss3 (X : Cx) (sts : List Stmt) (t : TS3) : Prop := PSs X sts (lowS X.K t)
noncomputable def J3 (X : Cx) (e : Expr) (t : TG3) : Prop := PG X e (lowG X.K t)
noncomputable def Js3 (X : Cx) (es : List Expr) (t : TGs3) : Prop := PGs X es (lowGs X.K t)
noncomputable def I3 (X : Cx) (tg e : Expr) (t : TI3) : Prop := PI X tg e (lowI X.K t)
noncomputable def O3 (X : Cx) (e : Option Expr) (t : TO3) : Prop := PO X e (lowO X.K t)
noncomputable def Ifs3 (X : Cx) (es : List Expr) (t : TT3) : Prop := PIfs X es (lowT X.K t)
noncomputable abbrev Op3 (X : Cx) (f : Value → Value → Sem Value) (r : R3) : Prop := OpR X f (lowR X.K r)
noncomputable abbrev Call3 (X : Cx) (f : Value) (r : C3) : Prop := CallR X f (lowC X.K r)

section
variable {X : Cx} {a b c e o : Expr} {es : List Expr} {pos apos cpos p p2 : Pos} {ta tb tc te : TE3} {t u : TT3} {ts us : TA3}
theorem ev (i : Nat) {x : Str} {pos : Pos} (hN : X.N[i]? = some x := by rfl) (hv : Vis X.env.scope x := by first | exact Or.inl rfl | exact Or.inr (Or.inl rfl) | exact Or.inr (Or.inr rfl)) (hd : (x == ("__debug__" : Str)) = false := by decide)
    (hcd : (x == ("__classdict__" : Str)) = false := by decide) : E3 X (.Name x pos) (dVar i) := weakE (pe_var hN hv hd hcd) fun _ _ _ => low_var
theorem e_int {i j pos} : E3 X (.Constant (.int i) j pos) (dC (.int i)) := weakE pe_int fun _ _ _ => low_c fun _ => by rw [RelD]
theorem e_bl {i j pos} : E3 X (.Constant (.bool i) j pos) (dC (.bl i)) := weakE pe_bl fun _ _ _ => low_c fun _ => by rw [RelD]
theorem e_non {j pos} : E3 X (.Constant .none j pos) (dC .non) := weakE pe_non fun _ _ _ => low_c fun _ => by rw [RelD]
theorem e_str {x j pos} : E3 X (.Constant (.str x) j pos) (dC (.str x)) := weakE pe_str fun _ _ _ => low_c fun _ => by rw [RelD]
theorem e_glob {x : Str} {d : D} {v : V} {w : Value} (hg : Gl X x) (hm : X.mg x = some w) (r : RelV v w) (rd : ∀ H, RelD X.K H d v) (hd : (x == ("__debug__" : Str)) = false := by decide) : E3 X (.Name x pos) (dC d) :=
  weakE (pe_glob hg hm r hd) fun _ _ _ => low_c rd
theorem e_bin {op : Operator} {r : R3} (ho : Op3 X (binaryOp op) r) (ha : E3 X a ta) (hb : E3 X b tb) : E3 X (.BinOp a op b pos) (dOp r ta tb) := weakE (pe_op ho ha hb) fun _ _ _ => low_op
theorem e_un {op : UnaryOp} {r : U3} (ho : UnR X (unaryOp op) (lowU X.K r)) (ha : E3 X a ta) : E3 X (.UnaryOp op a pos) (dUn r ta) := weakE (pe_un ho ha) fun _ _ _ => low_un
theorem e_cmp {op : CmpOp} {r : R3} (ho : Op3 X (compareOp op) r) (ha : E3 X a ta) (hb : E3 X b tb) (hm : behindInMarks op b = false) : E3 X (.Compare a [op] [b] pos) (dOp r ta tb) := weakE (pe_cmpR ho ha hb hm) fun _ _ _ => low_op
theorem t_cmp {op : CmpOp} {r : R3} (ho : Op3 X (compareOp op) r) (ha : E3 X a ta) (hb : E3 X b tb) (hm : behindInMarks op b = false) : T3 X (.Compare a [op] [b] pos) (dB (dOp r ta tb)) :=
  weakT (pt_cmpR ho ha hb hm) fun σ H Q h => by
    obtain ⟨σd, G, q, rs, c, t, f⟩ := h
    exact low_op (K := X.K) ⟨σd, G, _, rs, c, t, fun x G1 v H1 r1 c1 l1 t1 => by
      split at t1
      · rename_i k
        exact ⟨k, r1.bl_inv, f _ _ _ c1 l1 t1⟩
      · exact t1.elim⟩
theorem t_val (h : E3 X e te) (he : ∀ whole, isTrue e X.env whole = (do let v ← whole; standAt e.pos; holding [v] (truthy v)) := by intro _; rfl) : T3 X e (dB te) := weakT (pt_val h he) fun _ _ _ => low_b
theorem w_and1 (ha : T3 X a t) : W3 X (.BoolOp .And [a] pos) t := pw_and1 ha
theorem w_or1 (ha : T3 X a t) : W3 X (.BoolOp .Or [a] pos) t := pw_or1 ha
theorem w_and {rest : List Expr} (ha : T3 X a t) (hb : W3 X (.BoolOp .And (b :: rest) pos) u) : W3 X (.BoolOp .And (a :: b :: rest) pos) (dAnd t u) := weakW (pw_and ha hb) fun _ _ _ => low_andT
theorem w_or {rest : List Expr} (ha : T3 X a t) (hb : W3 X (.BoolOp .Or (b :: rest) pos) u) : W3 X (.BoolOp .Or (a :: b :: rest) pos) (dOr t u) := weakW (pw_or ha hb) fun _ _ _ => low_orT
theorem t_w (h : W3 X e t) : T3 X e t := PW.pt h
theorem t_not (ha : T3 X a t) : T3 X (.UnaryOp .Not a pos) (dNot t) := weakT (pt_not ha) fun _ _ _ => low_notT
theorem e_one {op} (h : E3 X a ta) : E3 X (.BoolOp op [a] pos) ta := pe_one h
theorem e_and {rest : List Expr} (ha : E3 X a ta) (hb : E3 X (.BoolOp .And (b :: rest) pos) tb) : E3 X (.BoolOp .And (a :: b :: rest) pos) (dAndV ta tb) := weakE (pe_and ha hb) fun _ _ _ => low_andV
theorem e_not (ha : E3 X a ta) : E3 X (.UnaryOp .Not a pos) (dNotV ta) := weakE (pe_not ha) fun _ _ _ => low_notV
theorem a_nil : A3 X [] dNil := weakA pa_nil fun _ _ _ => low_nil
theorem a_cons (ha : E3 X e te) (hr : A3 X es ts) (hs : starEach (e :: es) X.env = (false, eval e X.env) :: starEach es X.env := by rfl) : A3 X (e :: es) (dCons te ts) := weakA (pa_cons ha hr hs) fun _ _ _ => low_cons
theorem e_tup {x1} (h : A3 X es ts) : E3 X (.Tuple es x1 pos) (dTup ts) := weakE (pe_tup h) fun _ _ _ => low_tup
theorem e_lst (h : A3 X es ts) : E3 X (.List es pos) (dLst ts) := weakE (pe_lst h) fun _ _ _ => low_lst
theorem e_ix {r : R3} (hr : IxR X (lowR X.K r)) (ha : E3 X a ta) (hb : E3 X b tb) (hs : PlainIx b := by exact fun _ _ => rfl) : E3 X (.Subscript a b pos) (dOp r ta tb) := weakE (pe_ix hr ha hb hs) fun _ _ _ => low_op
theorem o_none : O3 X none dNoPart := weakO po_none fun _ _ _ => low_noPart
theorem o_some (h : E3 X e te) : O3 X (some e) (dPart te) := weakO (po_some h) fun _ _ _ => low_part
theorem e_sl {r : RS3} {lo hi : Option Expr} {tl th : TO3} (hr : SlR X (lowRS X.K r)) (he : E3 X e te) (hl : O3 X lo tl) (hu : O3 X hi th) : E3 X (.Subscript e (.Slice lo hi none p2) pos) (dSl r te tl th) := weakE (pe_slice hr he hl hu) fun _ _ _ => low_sl
end

/-! ### statements -/
section
variable {X : Cx} {a b c e o value : Expr} {es : List Expr} {st : Stmt} {sts sts2 : List Stmt} {pos pos' spos tpos : Pos} {te ta tv : TE3} {t : TT3} {s1 s2 : TS3} {g : TG3}
theorem ss_nil : Ss3 X [] dNext := weakSs pss_nil fun _ _ _ => low_next
theorem ss_cons (h1 : S3 X st s1) (h2 : Ss3 X sts s2) : Ss3 X (st :: sts) (dSeq s1 s2) := weakSs (pss_cons h1 h2) fun _ _ _ => low_seq
theorem ss_one (h1 : S3 X st s1) : Ss3 X [st] s1 := pss_one h1
theorem s_expr (he : E3 X e te) (hs : swapsWith e none pos.line X.env = pure false := by rfl) : S3 X (.Expr e pos) (dDrop te) := weakS (ps_expr he hs) fun _ _ _ => low_drop
theorem s_ret (he : E3 X e te) : S3 X (.Return (some e) pos) (dRet te) := weakS (ps_ret he) fun _ _ _ => low_ret
theorem s_if (hc : T3 X c t) (ha : Ss3 X sts s1) (hb : Ss3 X sts2 s2) : S3 X (.If c sts sts2 pos) (dIfS t s1 s2) := weakS (ps_if hc ha hb) fun _ _ _ => low_ifS
noncomputable def dNever : TS3 := fun _ _ _ => False
theorem s_never : S3 X st dNever := weakS ps_never fun _ _ _ h => by obtain ⟨_, _, _, _, _, h, _⟩ := h; exact h.elim
theorem j_name (i : Nat) {x : Str} (hN : X.N.Nodup) (hi : X.N[i]? = some x := by rfl) (hx : Loc X.env.scope x := by first | exact Or.inl rfl | exact Or.inr rfl) (hf : X.fn x = true ∨ X.env.scope.names.lookup x = some .local := by first | exact .inl rfl | exact .inr rfl | assumption) : J3 X (.Name x pos) (jName i) :=
  weakG (pg_name hN hi hx hf) fun _ _ _ _ => low_jName
theorem js_nil : Js3 X [] jNil := weakGs pgs_nil fun _ _ _ _ => low_jNil
theorem js_cons {t : TG3} {u : TGs3} (h1 : J3 X e t) (h2 : Js3 X es u) (hs : (assignEach (e :: es) X.env).map (·.2) = assign e X.env :: (assignEach es X.env).map (·.2) := by rfl) : Js3 X (e :: es) (jCons t u) := weakGs (pgs_cons h1 h2 hs) fun _ _ _ _ => low_jCons
theorem j_sub {i : Expr} {to ti : TE3} {t : TSet3} (ho : E3 X o to) (hi : E3 X i ti) (hs : PSet X (lowSet X.K t))
    (ha : ∀ v, assign (.Subscript o i pos) X.env v = (do
      let ov ← holding [v] (eval o X.env)
      let iv ← holding [v, ov] (eval i X.env)
      standAt pos
      holding [v, ov, iv] (setItem ov iv v)
      release [v, ov, iv] []) := by intro _; rfl) : J3 X (.Subscript o i pos) (jSub to ti t) := weakG (pg_sub ho hi hs ha) fun _ _ _ _ => low_jSub
theorem s_asg {tg : Expr} (he : E3 X e te) (hg : J3 X tg g) (hs : swapsWithSole [tg] e pos.line X.env = pure false := by rfl) (hw : swappedStores [tg] e X.env = pure none := by rfl)
    (h1 : (assignEach [tg] X.env).map (·.2) = [assign tg X.env] := by rfl) : S3 X (.Assign [tg] e pos) (dAsg te g) := weakS (ps_asg he hg hs hw h1) fun _ _ _ => low_asg
theorem s_set (i : Nat) {x : Str} (hN : X.N.Nodup) (he : E3 X e te) (hi : X.N[i]? = some x := by rfl) (hx : Loc X.env.scope x := by first | exact Or.inl rfl | exact Or.inr rfl) (hs : swapsWith e (some (.Name x pos')) pos.line X.env = pure false := by rfl)
    (hf : X.fn x = true ∨ X.env.scope.names.lookup x = some .local := by first | exact .inl rfl | exact .inr rfl | assumption) : S3 X (.Assign [.Name x pos'] e pos) (dAsg te (jName i)) :=
  weakS (ps_set hN hi hx he hs hf) fun D σ H h => by
    obtain ⟨σd, G, q, rs, c, t, f⟩ := h
    exact ⟨σd, G, _, rs, c, t, fun x G1 v H1 r1 c1 l1 t1 => f.nx _ _ _ _ ((rs.le l1).set i r1) c1 l1 t1⟩
theorem s_aug (i : Nat) {x : Str} {op : Operator} {r : R3} (hN : X.N.Nodup) (he : E3 X e te) (ho : Op3 X (inplaceOp op) r) (hi : X.N[i]? = some x := by rfl) (hx : Loc X.env.scope x := by first | exact Or.inl rfl | exact Or.inr rfl)
    (hf : X.fn x = true ∨ X.env.scope.names.lookup x = some .local := by first | exact .inl rfl | exact .inr rfl | assumption) : S3 X (.AugAssign (.Name x pos') op e pos) (dAug i te r) := weakS (ps_aug hN hi hx he ho hf) fun _ _ _ => low_aug
theorem s_while {body : List Stmt} (hc : T3 X c t) (hb : Ss3 X body s1) (hp : PassesOwn (model X.prog X.w) X.A X.env X.xe := by exact PassesOwn.never) : S3 X (.While c body [] pos) (dWhile t s1) := weakS (ps_while hp hc hb) fun _ _ _ => low_while
theorem s_for {tg iter : Expr} {body : List Stmt} {wi : TI3} (hi : I3 X tg iter wi) (hg : J3 X tg g) (hb : Ss3 X body s1) (hc : X.calm = true := by rfl) (hp : PassesOwn (model X.prog X.w) X.A X.env X.xe := by exact PassesOwn.never)
    (hs : ∀ x, foldedSetIterable iter X.env x = pure x := by intro _; rfl) : S3 X (.For tg iter body [] pos) (dFor wi g s1) := weakS (ps_for hp hc hi hg hb hs) fun _ _ _ => low_for
end
theorem low_wRng1 {K : PySem.W.Frag} {σ : L2.St} {H : Hp} {ta : TA3} {R : It → Hp → Prop} (h : lowI K (fun σ G r => ta σ G fun ds G1 => match ds with | [.int j] => (-(2 ^ 62) ≤ j ∧ j < 2 ^ 62) ∧ r ⟨rngD 0 j.toNat, fun _ => True⟩ G1 | _ => False) σ H R) : iRng1 (lowA K ta) σ H R := by
  obtain ⟨σd, G, q, rs, c, t, f⟩ := h
  refine ⟨σd, G, _, rs, c, t, fun ds G1 vs H1 r1 c1 l1 t1 => ?_⟩
  split at t1
  · rename_i j
    obtain ⟨x, r, rfl, rx, rr⟩ := r1.inv_cons
    rw [RelD] at rx
    subst rx
    rw [rr.inv_nil]
    exact ⟨j, rfl, t1.1.1, t1.1.2, f _ _ _ _ itrel_range c1 l1 t1.2⟩
  · exact t1.elim
noncomputable def wRng1 (ta : TA3) : TI3 := fun σ G r => ta σ G fun ds G1 => match ds with | [.int j] => (-(2 ^ 62) ≤ j ∧ j < 2 ^ 62) ∧ r ⟨rngD 0 j.toNat, fun _ => True⟩ G1 | _ => False
noncomputable def wRng2 (ta : TA3) : TI3 := fun σ G r => ta σ G fun ds G1 => match ds with | [.int i, .int j] => (-(2 ^ 62) ≤ i ∧ i < 2 ^ 62 ∧ -(2 ^ 62) ≤ j ∧ j < 2 ^ 62) ∧ r ⟨rngD i (j - i).toNat, fun _ => True⟩ G1 | _ => False
section
variable {X : Cx} {a b e o tg : Expr} {es : List Expr} {p pos apos cpos : Pos} {ta : TE3} {ts : TA3}
theorem i_rng1 (hg : Gl X "range") (hm : X.mg "range" = none) (ha : A3 X [a] ts) (hs : starEach [a] X.env = [(false, eval a X.env)] := by rfl) : I3 X tg (.Call (.Name "range" p) [a] [] pos) (wRng1 ts) := weakI (pi_range1 hg hm ha hs) fun _ _ _ => low_wRng1
/-! ### calls -/
variable {k : Nat} {f C : Addr} {fd : FuncData} {ps : List Str} {S : Sp3} {dds : List D} {dvs : List V} {ds : List Value} {x m : Str}
theorem e_call (F : FnOk X.prog X.w X.K X.mg X.base CX0 k f fd ps (lowSp X.K S)) (hr : Room k X.A) (hg : Gl X x) (hm : X.mg x = some (.ref f)) (hk : PySem.W.keepIn X.K (.ref f) = true) (hb : Binds X.K fd ps ds) (hd : Vals dvs ds) (hdd : ∀ H, RelDs X.K H dds dvs)
    (ha : A3 X (e :: es) ts) (hdb : (x == ("__debug__" : Str)) = false := by decide) (he : starEach (e :: es) X.env = (false, eval e X.env) :: starEach es X.env := by rfl) (hpl : (backTo pos (starEach es X.env)).any (·.1) = false := by rfl) :
    E3 X (.Call (.Name x p) (e :: es) [] pos) (dCall S dds ts) := weakE (pe_call F hr hg hm hk hb hd pass0 ha hdb he hpl) fun _ _ _ => low_call hdd
theorem e_meth {pl : Sem Bool} (he : E3 X o ta) (c : Cls X.K C) (hm : Meth X.K C m f) (F : FnOk X.prog X.w X.K X.mg X.base CX0 k f fd ps (lowSp X.K S)) (hr : Room k X.A) (hb : Binds X.K fd ps ds) (hd : Vals dvs ds) (hdd : ∀ H, RelDs X.K H dds dvs) (ha : A3 X (e :: es) ts)
    (hse : starEach (e :: es) X.env = (false, eval e X.env) :: starEach es X.env := by rfl) (hpl : (backTo pos (starEach es X.env)).any (·.1) = false := by rfl)
    (ht : eval (.Call (.Attribute o m apos) (e :: es) [] pos) X.env = (do
      let ov ← eval o X.env
      standAt apos.atName
      let (f, first) ← holding [ov] (getMethod ov m pl)
      callWith pos f first (backTo pos (starEach (e :: es) X.env)) (backToKw pos (keywordEach [] X.env))) := by rfl) : E3 X (.Call (.Attribute o m apos) (e :: es) [] pos) (dMeth C m S dds ta ts) :=
  weakE (pe_meth he c hm F hr hb hd pass0 ha hse hpl ht) fun _ _ _ => low_meth hdd
variable {id T : String} {r : C3} {rm : M3} {name : Str}
theorem e_callB (hc : Call3 X (.builtin id) r) (hg : Gl X x) (hm : X.mg x = none) (hv : bootBuiltins x = some (.builtin id)) (ha : A3 X (e :: es) ts) (hn : x ≠ "__name__" := by decide) (hdb : (x == ("__debug__" : Str)) = false := by decide)
    (he : starEach (e :: es) X.env = (false, eval e X.env) :: starEach es X.env := by rfl) (hpl : (backTo pos (starEach es X.env)).any (·.1) = false := by rfl) : E3 X (.Call (.Name x p) (e :: es) [] pos) (dCB r ts) :=
  weakE (pe_callB hc hg hm hv ha hn hdb he hpl) fun _ _ _ => low_cb
theorem e_callTy (hc : Call3 X (.type T) r) (hg : Gl X x) (hm : X.mg x = none) (hv : bootBuiltins x = some (.type T)) (ha : A3 X (e :: es) ts) (hn : x ≠ "__name__" := by decide) (hdb : (x == ("__debug__" : Str)) = false := by decide)
    (he : starEach (e :: es) X.env = (false, eval e X.env) :: starEach es X.env := by rfl) (hpl : (backTo pos (starEach es X.env)).any (·.1) = false := by rfl) : E3 X (.Call (.Name x p) (e :: es) [] pos) (dCB r ts) :=
  weakE (pe_callTy hc hg hm hv ha hn hdb he hpl) fun _ _ _ => low_cb
end
end L3
namespace L3
open PySem PySem.Spec PyProof.Rows L2
set_option maxHeartbeats 4000000
/-! ### comprehensions -/
noncomputable def innerD (ix : List (Option Nat)) (σ : DSt) : DSt := ix.map fun o => o.bind fun j => (σ[j]?).bind id
noncomputable def compL (ok : Gp → Prop) (g : TG3) (tc : TT3) (te : TE3) (p : Addr) (q : DK) : List D → DSt → Gp → Prop
  | [], _, G => ok G ∧ q (.ref p) G
  | x :: r, σ, G => ok G ∧ g x σ G fun σ2 G2 => tc σ2 G2 fun b G3 =>
    if b = true then te σ2 G3 fun d G4 => (match G4 p with | some (.lst ys) => ys.length < sizeLine ∧ compL ok g tc te p q r σ2 (gup G4 p (.lst (ys ++ [d]))) | _ => False)
    else compL ok g tc te p q r σ2 G3
noncomputable def dComp (ix : List (Option Nat)) (wi : TI3) (g : TG3) (tc : TT3) (te : TE3) : TE3 := fun σ G q => wi σ G fun it G1 => ∀ p, G1 p = none → compL it.ok g tc te p q it.items (innerD ix σ) (gup G1 p (.lst []))
theorem RelSt.inn {K : PySem.W.Frag} {H : Hp} {σd : DSt} {σ : L2.St} (h : RelSt K H σd σ) (ix : List (Option Nat)) : RelSt K H (innerD ix σd) (L2.inner ix σ) := by
  refine ⟨by unfold innerD L2.inner; rw [List.length_map, List.length_map], fun i d e => ?_⟩
  unfold innerD at e
  unfold L2.inner
  rw [List.getElem?_map] at e ⊢
  cases ho : ix[i]? with
  | none => rw [ho] at e; cases e
  | some o =>
    rw [ho] at e
    cases o with
    | none => cases e
    | some j =>
      have e : (σd[j]?).bind id = some d := Option.some.inj e
      have e : σd[j]? = some (some d) := by
        cases hs : σd[j]? with
        | none => rw [hs] at e; cases e
        | some w => rw [hs] at e; cases e; rfl
      obtain ⟨v, hv, r⟩ := h.2 j d e
      exact ⟨v, by show some ((σ[j]?).bind id) = _; rw [hv]; rfl, r⟩
theorem low_comp {K : PySem.W.Frag} {ix : List (Option Nat)} {wi : TI3} {g : TG3} {tc : TT3} {te : TE3} {σ : L2.St} {H : Hp} {Q : VK} (h : lowE K (dComp ix wi g tc te) σ H Q) : tComp ix (lowI K wi) (lowG K g) (lowT K tc) (lowE K te) σ H Q := by
  obtain ⟨σd, G, q, rs, cc, t, f⟩ := h
  refine ⟨σd, G, _, rs, cc, t, fun it J G1 H1 ir c1 l1 t1 => ?_⟩
  intro p hp
  have t1 := t1 p (c1.fresh hp)
  have c2 : Con K (gup G1 p (.lst [])) (upd H1 p (.lst [])) := c1.lstNew hp .nil
  have l2 : Le H1 (upd H1 p (.lst [])) := Le.fresh hp
  refine ⟨fun i m σ' H' => ∃ σd' G', Le (upd H1 p (.lst [])) H' ∧ RelSt K H' σd' σ' ∧ Con K G' H' ∧ i + m = it.items.length ∧ compL it.ok g tc te p q (it.items.drop i) σd' G',
    ⟨it.items.length, innerD ix σd, _, Le.refl _, (rs.le (l1.trans l2)).inn ix, c2, by omega, by rw [List.drop_zero]; exact t1⟩, ?_⟩
  rintro i m σ2 H2 ⟨σd2, G2, l3, rs2, c2, e2, t2⟩
  have l12 : Le H1 H2 := l2.trans l3
  by_cases hi : i < it.items.length
  · rw [List.drop_eq_getElem_cons hi] at t2
    obtain ⟨ok2, t2⟩ := t2
    refine .inr ⟨ir.go i G2 H2 l12 c2 ok2 hi, fun σ' H' => ∃ σd' G', Le (upd H1 p (.lst [])) H' ∧ RelSt K H' σd' σ' ∧ Con K G' H' ∧ compL it.ok g tc te p q (it.items.drop (i + 1)) σd' G', ?_, ?_⟩
    · rintro σ' H' ⟨σd', G', a1, a2, a3, a4⟩
      exact ⟨m - 1, by omega, σd', G', a1, a2, a3, by omega, a4⟩
    · intro x H3 y
      obtain ⟨c3, l4, e, he, r3⟩ := ir.yld i G2 H2 x H3 l12 c2 ok2 hi y
      rw [List.getElem?_eq_getElem hi] at he
      cases he
      refine ⟨_, σd2, G2, _, r3, rs2.le l4, c3, t2, fun σd4 G4 σ4 H4 rs4 c4 l5 t4 => ?_⟩
      refine ⟨σd4, G4, _, rs4, c4, t4, fun b G5 H5 c5 l6 t5 => ?_⟩
      cases b with
      | false =>
        rw [if_neg Bool.false_ne_true] at t5 ⊢
        exact ⟨σd4, G5, l3.trans (l4.trans (l5.trans l6)), rs4.le l6, c5, t5⟩
      | true =>
        rw [if_pos rfl] at t5 ⊢
        refine ⟨σd4, G5, _, rs4.le l6, c5, t5, fun d G6 v H6 r6 c6 l7 t6 => ?_⟩
        split at t6
        · rename_i ys eg
          obtain ⟨xs, ex, rx⟩ := c6 p _ eg
          have l8 := Le.lst (ys := xs ++ [v]) ex
          exact ⟨xs, ex, by rw [← rx.length]; exact t6.1, σd4, _, l3.trans (l4.trans (l5.trans (l6.trans (l7.trans l8)))), rs4.le (l6.trans (l7.trans l8)), c6.lstSet ex (rx.append (.cons r6 .nil)), t6.2⟩
        · exact t6.elim
  · rw [List.drop_eq_nil_of_le (by omega)] at t2
    exact .inl ⟨ir.stop i G2 H2 l12 c2 t2.1 (by omega), f _ _ _ _ RelD.refI c2 (l1.trans l12) t2.2⟩
noncomputable def dYes : TT3 := fun _ G q => q true G
section
variable {X : Cx} {elt tg iter : Expr} {ifs : List Expr} {scope : Scope} {pos : Pos} {N' : List Str} {ix : List (Option Nat)} {wi : TI3} {g : TG3} {tc : TT3} {te : TE3}
theorem ifs_nil : Ifs3 X [] dYes := weakIfs pifs_nil fun σ H Q h => by
  obtain ⟨σd, G, q, rs, c, t, f⟩ := h
  exact f _ _ _ c (Le.refl H) t
theorem ifs_one {c : Expr} (h : T3 X c tc) : Ifs3 X [c] tc := pifs_one h
theorem e_comp (B : BlkOk X N' ix scope) (hw : I3 X tg iter wi) (hg : ∀ C s H fp, J3 (cxComp X N' scope C s H fp) tg g) (hi : ∀ C s H fp, Ifs3 (cxComp X N' scope C s H fp) ifs tc) (he : ∀ C s H fp, E3 (cxComp X N' scope C s H fp) elt te)
    (hc : X.calm = true := by rfl) (hs : ∀ x, foldedSetIterable iter X.env x = pure x := by intro _; rfl) : E3 X (.ListComp elt [⟨tg, iter, ifs, 0⟩] scope pos) (dComp ix wi g tc te) :=
  weakE (pe_comp (g := lowG X.K g) (tc := lowT X.K tc) (te := lowE X.K te) B hc hw hg hi he hs) fun _ _ _ => low_comp
theorem s_setC (i : Nat) {y : Str} {py spos : Pos} (hN : X.N.Nodup) (B : BlkOk X N' ix scope) (hw : I3 X tg iter wi) (hg : ∀ C s H fp, J3 (cxComp X N' scope C s H fp) tg g) (hi : ∀ C s H fp, Ifs3 (cxComp X N' scope C s H fp) ifs tc) (he : ∀ C s H fp, E3 (cxComp X N' scope C s H fp) elt te)
    (hy : X.N[i]? = some y := by rfl) (hl : Loc X.env.scope y := by first | exact Or.inl rfl | exact Or.inr rfl)
    (hc : X.calm = true := by rfl) (hsw : swapsWith (.ListComp elt [⟨tg, iter, ifs, 0⟩] scope pos) (some (.Name y py)) spos.line X.env = pure true := by rfl)
    (hf : X.fn y = true ∨ X.env.scope.names.lookup y = some .local := by first | exact .inl rfl | exact .inr rfl | assumption)
    (hs : ∀ x, foldedSetIterable iter X.env x = pure x := by intro _; rfl) : S3 X (.Assign [.Name y py] (.ListComp elt [⟨tg, iter, ifs, 0⟩] scope pos) spos) (dAsg (dComp ix wi g tc te) (jName i)) :=
  weakS (ps_setC (g := lowG X.K g) (tc := lowT X.K tc) (te := lowE X.K te) B hc hN hy hl hw hg hi he hsw hf hs) fun D σ H h => by
    obtain ⟨σd, G, d, rs, c, t, f⟩ := h
    exact low_comp (K := X.K) ⟨σd, G, _, rs, c, t, fun x G1 v H1 r1 c1 l1 t1 => f.nx _ _ _ _ ((rs.le l1).set i r1) c1 l1 t1⟩
end
end L3

namespace L3
open PySem PySem.Spec PyProof.Rows L2
set_option maxHeartbeats 4000000
/-! ### operations, by the values' kinds -/
noncomputable def xAdd : R3 := fun x y G q => match x, y with
  | .int i, .int j => q (.int (i + j)) G
  | .str a, .str b => a.length + b.length ≤ sizeLine ∧ q (.str (a ++ b)) G
  | .tup a, .tup b => a ≠ [] ∧ a.length + b.length ≤ sizeLine ∧ q (.tup (a ++ b)) G
  | .ref a, .ref b => (match G a, G b with
    | some (.lst xs), some (.lst ys) => xs.length + ys.length ≤ sizeLine ∧ ∀ p, G p = none → q (.ref p) (gup G p (.lst (xs ++ ys)))
    | _, _ => False)
  | _, _ => False
noncomputable def xInt (f : Int → Int → Int) : R3 := fun x y G q => match x, y with | .int i, .int j => q (.int (f i j)) G | _, _ => False
noncomputable def xIntC (C : Int → Int → Prop) (f : Int → Int → Int) : R3 := fun x y G q => match x, y with | .int i, .int j => C i j ∧ q (.int (f i j)) G | _, _ => False
noncomputable def xSub : R3 := xInt fun i j => i - j
noncomputable def xMul : R3 := fun x y G q => match x, y with
  | .int i, .int j => CMul i j ∧ q (.int (i * j)) G
  | .ref a, .int k => (match G a with
    | some (.lst xs) => (-(2 ^ 63) ≤ k ∧ k < 2 ^ 63 ∧ xs.length * k.toNat ≤ sizeLine) ∧ ∀ p, G p = none → q (.ref p) (gup G p (.lst (List.replicate k.toNat xs).flatten))
    | _ => False)
  | _, _ => False
noncomputable def CDivL (_ j : Int) : Prop := 0 < j ∧ j < 18446744073709551616
noncomputable def xDiv : R3 := xIntC CDivL fun i j => i / j
noncomputable def xMod : R3 := xIntC (fun _ j => 0 < j) fun i j => i % j
noncomputable def xPow : R3 := xIntC CPow fun i j => i ^ j.toNat
noncomputable def xShl : R3 := xIntC CPow fun i j => i * 2 ^ j.toNat
noncomputable def xShr : R3 := xIntC (fun _ j => 0 ≤ j) fun i j => i / 2 ^ j.toNat
noncomputable def xAnd : R3 := xInt Builtin.bitAnd
noncomputable def xOr : R3 := xInt Builtin.bitOr
noncomputable def xXor : R3 := xInt Builtin.bitXor
noncomputable def xLt : R3 := fun x y G q => match x, y with | .int i, .int j => q (.bl (decide (i < j))) G | .str a, .str b => q (.bl (decide (a.cps.toList < b.cps.toList))) G | _, _ => False
noncomputable def xLe : R3 := fun x y G q => match x, y with | .int i, .int j => q (.bl (decide (i ≤ j))) G | _, _ => False
noncomputable def xGt : R3 := fun x y G q => match x, y with | .int i, .int j => q (.bl (decide (j < i))) G | _, _ => False
noncomputable def xGe : R3 := fun x y G q => match x, y with | .int i, .int j => q (.bl (decide (j ≤ i))) G | _, _ => False
section
variable {X : Cx} {K : PySem.W.Frag} {H : Hp}
theorem RelD.int_inv {i : Int} {v : V} (h : RelD K H (.int i) v) : v = .int i := by rw [RelD] at h; exact h
theorem RelD.str_inv {i : Str} {v : V} (h : RelD K H (.str i) v) : v = .str i := by rw [RelD] at h; exact h
theorem RelD.non_inv {v : V} (h : RelD K H .non v) : v = .non := by rw [RelD] at h; exact h
theorem RelD.tup_inv {ds : List D} {v : V} (h : RelD K H (.tup ds) v) : ∃ a xs, v = .ref a ∧ SqT K H a xs ∧ RelDs K H ds xs := by rw [RelD] at h; exact h
theorem RelD.intI {i : Int} : RelD K H (.int i) (.int i) := by rw [RelD]
theorem RelD.strI {i : Str} : RelD K H (.str i) (.str i) := by rw [RelD]
theorem RelD.blI {i : Bool} : RelD K H (.bl i) (.bl i) := by rw [RelD]
theorem RelD.nonI : RelD K H .non .non := by rw [RelD]
theorem x_int {f : Value → Value → Sem Value} {g : Int → Int → Int} (h : OpR X f (rI0 fun i j => .int (g i j))) : Op3 X f (xInt g) := weakOp h fun x y H Q ⟨d, e, G, q, r1, r2, c, t, f⟩ => by
  unfold xInt at t
  split at t
  · exact ⟨_, _, r1.int_inv, r2.int_inv, f _ _ _ _ RelD.intI c (Le.refl H) t⟩
  · exact t.elim
theorem x_intC {f : Value → Value → Sem Value} {C : Int → Int → Prop} {g : Int → Int → Int} (h : OpR X f (rI C fun i j => .int (g i j))) : Op3 X f (xIntC C g) := weakOp h fun x y H Q ⟨d, e, G, q, r1, r2, c, t, f⟩ => by
  unfold xIntC at t
  split at t
  · exact ⟨_, _, r1.int_inv, r2.int_inv, t.1, f _ _ _ _ RelD.intI c (Le.refl H) t.2⟩
  · exact t.elim
theorem x_sub : Op3 X (binaryOp .Sub) xSub := x_int op_sub
theorem op_fdivL : OpR X (binaryOp .FloorDiv) (rI CDivL fun i j => .int (i / j)) := opI fun i j _ _ _ _ _ hc q => by
  have hl : j.natAbs.log2 < 9000 := by
    have h1 := hc.1
    have h2 := hc.2
    have hn : j.natAbs ≠ 0 := by omega
    have : j.natAbs.log2 < 64 := (Nat.log2_lt hn).mpr (by omega)
    omega
  refine floordiv_int (by have := hc.1; omega) ?_ (.inl (PyProof.noPylong_of_log2 hl))
  rw [Int.fdiv_eq_ediv_of_nonneg i (by have := hc.1; omega)]
  exact q
theorem x_div : Op3 X (binaryOp .FloorDiv) xDiv := x_intC op_fdivL
theorem x_mod : Op3 X (binaryOp .Mod) xMod := x_intC op_mod
theorem x_pow : Op3 X (binaryOp .Pow) xPow := x_intC op_pow
theorem x_shl : Op3 X (binaryOp .LShift) xShl := x_intC op_shl
theorem x_iadd : Op3 X (inplaceOp .Add) (xInt fun i j => i + j) := x_int iop_add
theorem x_add : Op3 X (binaryOp .Add) xAdd := weakOp (op_add.or (op_add_str.or (op_catT.or op_cat))) <| by
  rintro x y H Q ⟨d, e, G, q, r1, r2, c, t, f⟩
  unfold xAdd at t
  split at t
  · exact .inl ⟨_, _, r1.int_inv, r2.int_inv, f _ _ _ _ RelD.intI c (Le.refl H) t⟩
  · exact .inr (.inl ⟨_, _, r1.str_inv, r2.str_inv, t.1, f _ _ _ _ RelD.strI c (Le.refl H) t.2⟩)
  · obtain ⟨a, xs, rfl, s1, q1⟩ := r1.tup_inv
    obtain ⟨b, ys, rfl, s2, q2⟩ := r2.tup_inv
    refine .inr (.inr (.inl ⟨a, b, xs, ys, rfl, rfl, s1, s2, fun z => t.1 ?_, by rw [← q1.length, ← q2.length]; exact t.2.1, fun z => ?_, fun _ p hp => ?_⟩))
    · have := q1.length; rw [z] at this; exact List.eq_nil_of_length_eq_zero this
    · refine f (.tup _) G (.ref a) _ ?_ c (Le.refl _) t.2.2
      rw [RelD]
      subst z
      have e : ∀ {bs : List D}, RelDs X.K H bs [] → bs = [] := fun h => List.eq_nil_of_length_eq_zero h.length
      rw [e q2, List.append_nil]
      exact ⟨a, _, rfl, s1, q1⟩
    · refine f (.tup _) G (.ref p) _ ?_ (c.side hp) (Le.fresh hp) t.2.2
      rw [RelD]
      exact ⟨p, _, rfl, SqT.of upd_same, RelDs.le (Le.fresh hp) (q1.append q2)⟩
  · rename_i a b
    split at t
    · rename_i xs ys e1 e2
      obtain ⟨vs, h1, q1⟩ := c _ _ e1
      obtain ⟨ws, h2, q2⟩ := c _ _ e2
      exact .inr (.inr (.inr ⟨a, b, vs, ws, r1.ref_inv, r2.ref_inv, h1, h2, by rw [← q1.length, ← q2.length]; exact t.1, fun p hp => f _ _ _ _ RelD.refI (c.lstNew hp (q1.append q2)) (Le.fresh hp) (t.2 p (c.fresh hp))⟩))
    · exact t.elim
  · exact t.elim
theorem x_mul : Op3 X (binaryOp .Mult) xMul := weakOp (op_mul.or op_rep) <| by
  rintro x y H Q ⟨d, e, G, q, r1, r2, c, t, f⟩
  unfold xMul at t
  split at t
  · exact .inl ⟨_, _, r1.int_inv, r2.int_inv, t.1, f _ _ _ _ RelD.intI c (Le.refl H) t.2⟩
  · rename_i a k
    split at t
    · rename_i xs e1
      obtain ⟨vs, h1, q1⟩ := c _ _ e1
      refine .inr ⟨a, k, vs, r1.ref_inv, r2.int_inv, h1, t.1.1, t.1.2.1, by rw [← q1.length]; exact t.1.2.2, ?_⟩
      intro p hp
      exact f _ _ _ _ RelD.refI (c.lstNew hp (q1.rep _)) (Le.fresh hp) (t.2 p (c.fresh hp))
    · exact t.elim
  · exact t.elim
theorem x_cmpI {f : Value → Value → Sem Value} {g : Int → Int → Bool} (h : OpR X f (rI0 fun i j => .bl (g i j))) : Op3 X f (fun x y G q => match x, y with | .int i, .int j => q (.bl (g i j)) G | _, _ => False) := weakOp h fun x y H Q ⟨d, e, G, q, r1, r2, c, t, f⟩ => by
  dsimp only at t
  split at t
  · exact ⟨_, _, r1.int_inv, r2.int_inv, f _ _ _ _ RelD.blI c (Le.refl H) t⟩
  · exact t.elim
theorem x_le : Op3 X (compareOp .LtE) xLe := x_cmpI op_le
theorem x_gt : Op3 X (compareOp .Gt) xGt := x_cmpI op_gt
theorem x_ge : Op3 X (compareOp .GtE) xGe := x_cmpI op_ge
theorem x_lt : Op3 X (compareOp .Lt) xLt := weakOp (op_lt.or op_lt_str) <| by
  rintro x y H Q ⟨d, e, G, q, r1, r2, c, t, f⟩
  unfold xLt at t
  split at t
  · exact .inl ⟨_, _, r1.int_inv, r2.int_inv, f _ _ _ _ RelD.blI c (Le.refl H) t⟩
  · exact .inr ⟨_, _, r1.str_inv, r2.str_inv, f _ _ _ _ RelD.blI c (Le.refl H) t⟩
  · exact t.elim
theorem RelD.not_non {d : D} {v : V} (h : RelD K H d v) (n : d ≠ .non) : v ≠ .non := by
  cases d with
  | non => exact absurd rfl n
  | bl _ => rw [h.bl_inv]; exact fun z => nomatch z
  | int _ => rw [h.int_inv]; exact fun z => nomatch z
  | str _ => rw [h.str_inv]; exact fun z => nomatch z
  | ref _ => rw [h.ref_inv]; exact fun z => nomatch z
  | ty _ => rw [RelD] at h; rw [h]; exact fun z => nomatch z
  | tup _ => obtain ⟨a, xs, e, _⟩ := h.tup_inv; rw [e]; exact fun z => nomatch z
noncomputable def xNeg : U3 := fun x G q => match x with | .int i => q (.int (-i)) G | _ => False
theorem x_neg : UnR X (unaryOp .USub) (lowU X.K xNeg) := weakUn un_neg <| by
  rintro x H Q ⟨d, G, q, r1, c, t, f⟩
  unfold xNeg at t
  split at t
  · exact ⟨_, r1.int_inv, f _ _ _ _ RelD.intI c (Le.refl H) t⟩
  · exact t.elim
/-! ### items, slices, stores -/
noncomputable def xIx : R3 := fun x y G q => match x, y with
  | .tup ds, .int i => (match atI ds i with | some d => q d G | none => False)
  | .ref a, .int i => (match seqOf (G a) with | some ds => (match atI ds i with | some d => q d G | none => False) | none => False)
  | .str z, .int i => z.length ≤ sizeLine ∧ (match atI z.cps.toList i with | some c => q (.str ⟨#[c]⟩) G | none => False)
  | _, _ => False
theorem RelDs.atI {ds : List D} {xs : List V} {i : Int} {d : D} (h : RelDs K H ds xs) (e : L2.atI ds i = some d) : ∃ v, L2.atI xs i = some v ∧ RelD K H d v := by
  unfold L2.atI at e ⊢
  rw [← h.length]
  cases hj : ixN ds.length i with
  | none => rw [hj] at e; cases e
  | some j =>
    rw [hj] at e
    exact h.get e
theorem x_ix : IxR X (lowR X.K xIx) := weakIx ix_seq <| by
  rintro x y H Q ⟨d, e, G, q, r1, r2, c, t, f⟩
  unfold xIx at t
  split at t
  · rename_i ds i
    obtain ⟨a, xs, rfl, s1, q1⟩ := r1.tup_inv
    split at t
    · rename_i w ew
      obtain ⟨v, hv, rv⟩ := q1.atI ew
      exact .inr (.inl ⟨a, xs, i, v, rfl, r2.int_inv, s1, hv, f _ _ _ _ rv c (Le.refl H) t⟩)
    · exact t.elim
  · rename_i a i
    split at t
    · rename_i ds es
      obtain ⟨xs, s1, q1⟩ := sql_of c es
      split at t
      · rename_i w ew
        obtain ⟨v, hv, rv⟩ := q1.atI ew
        exact .inl ⟨a, xs, i, v, r1.ref_inv, r2.int_inv, s1, hv, f _ _ _ _ rv c (Le.refl H) t⟩
      · exact t.elim
    · exact t.elim
  · rename_i z i
    obtain ⟨hz, t⟩ := t
    split at t
    · rename_i w ew
      exact .inr (.inr ⟨z, i, w, r1.str_inv, r2.int_inv, hz, ew, f _ _ _ _ RelD.strI c (Le.refl H) t⟩)
    · exact t.elim
  · exact t.elim
noncomputable def cutD {α : Type} (xs : List α) (lo hi : Option Int) : List α := (xs.drop (HT.sIx xs.length 0 lo)).take (HT.sIx xs.length xs.length hi - HT.sIx xs.length 0 lo)
theorem RelDs.cut {ds : List D} {xs : List V} (h : RelDs K H ds xs) (lo hi : Option Int) : RelDs K H (cutD ds lo hi) (cutV xs lo hi) := by
  unfold cutD cutV
  rw [h.length]
  exact (h.drop _).take _
noncomputable def xSet : TSet3 := fun o i v G q => match o, i with
  | .ref a, .int k => (match G a with | some (.lst ds) => (match ixN ds.length k with | some j => q (gup G a (.lst (ds.set j v))) | none => False) | _ => False)
  | _, _ => False
theorem x_set : PSet X (lowSet X.K xSet) := weakSet set_list <| by
  rintro o i v H Q ⟨d, e, x, G, q, r1, r2, r3, c, t, f⟩
  unfold xSet at t
  split at t
  · rename_i a k
    split at t
    · rename_i ds e1
      obtain ⟨xs, h1, q1⟩ := c _ _ e1
      split at t
      · rename_i j ej
        exact ⟨a, xs, k, j, r1.ref_inv, r2.int_inv, h1, by rw [← q1.length]; exact ej, f _ _ (c.lstSet h1 (q1.set r3 j)) (Le.lst h1) t⟩
      · exact t.elim
    · exact t.elim
  · exact t.elim
end
end L3

namespace L3
open PySem PySem.Spec PyProof.Rows L2
set_option maxHeartbeats 4000000
/-! ### == of anything: by what the values are, all lists taken in -/
inductive Sn where
  | non | bl (b : Bool) | int (i : Int) | str (x : Str) | tup (xs : List Sn) | lst (xs : List Sn)
/-- the value as it stands at G, by n levels -/
noncomputable def snap (G : Gp) : Nat → D → Option Sn
  | _, .non => some .non
  | _, .bl b => some (.bl b)
  | _, .int i => some (.int i)
  | _, .str x => some (.str x)
  | n + 1, .tup ds => (ds.mapM (snap G n)).map .tup
  | n + 1, .ref a => (seqOf (G a)).bind fun ds => (ds.mapM (snap G n)).map .lst
  | _, _ => none
noncomputable def flatS : Sn → Bool
  | .non => true | .bl _ => true | .int _ => true | .str _ => true | _ => false
noncomputable def eqF : Sn → Sn → Bool
  | .non, .non => true
  | .bl a, .bl b => a == b
  | .bl a, .int b => (if a then 1 else 0) == b
  | .int a, .bl b => a == (if b then 1 else 0)
  | .int a, .int b => a == b
  | .str a, .str b => a == b
  | _, _ => false
/-- == by n levels: none where it is not told -/
noncomputable def eqN : Nat → Sn → Sn → Option Bool
  | n + 1, .tup xs, .tup ys => if xs.length = ys.length then ((xs.zip ys).mapM fun p => eqN n p.1 p.2).map fun bs => bs.all id else none
  | n + 1, .lst xs, .lst ys => if xs.length = ys.length then ((xs.zip ys).mapM fun p => eqN n p.1 p.2).map fun bs => bs.all id else some false
  | _, x, y => if (flatS x && flatS y) = true then some (eqF x y) else none

theorem mapM_some {α β : Type} {f : α → Option β} : ∀ {xs : List α} {ys : List β}, xs.mapM f = some ys → xs.length = ys.length ∧ ∀ (i : Nat) x, xs[i]? = some x → ∃ y, ys[i]? = some y ∧ f x = some y
  | [], ys, h => by
    have : ys = [] := by simpa using h.symm
    subst this
    exact ⟨rfl, fun i x e => by simp at e⟩
  | x :: xs, ys, h => by
    rw [List.mapM_cons] at h
    cases hx : f x with
    | none => rw [hx] at h; cases h
    | some y =>
      rw [hx] at h
      cases hr : xs.mapM f with
      | none => rw [hr] at h; cases h
      | some r =>
        rw [hr] at h
        have e : y :: r = ys := Option.some.inj h
        subst e
        obtain ⟨h1, h2⟩ := mapM_some hr
        refine ⟨by simp [h1], fun i z e => ?_⟩
        cases i with
        | zero => cases (show x = z from Option.some.inj e); exact ⟨y, rfl, hx⟩
        | succ i => exact h2 i z e
theorem all_of {bs : List Bool} {e : Nat → Bool} {n : Nat} (hl : bs.length = n) (h : ∀ (i : Nat) b, bs[i]? = some b → e i = b) : (List.range n).all e = bs.all id := by
  rw [Bool.eq_iff_iff, List.all_eq_true, List.all_eq_true]
  constructor
  · intro q b hb
    obtain ⟨i, hi, eb⟩ := List.mem_iff_getElem.mp hb
    have := q i (List.mem_range.mpr (by omega))
    rw [h i b (by rw [List.getElem?_eq_getElem hi, eb])] at this
    exact this
  · intro q i hi
    have hi := List.mem_range.mp hi
    rw [h i bs[i] (List.getElem?_eq_getElem (by omega))]
    exact q _ (List.getElem_mem _)
section
variable {X : Cx} {pins : List (Addr × Obj)} {σ : L2.St} {H : Hp} {s : Shared} {G : Gp}
theorem flat_of {n : Nat} {d : D} {sd : Sn} {x : V} {u : Value} (h : snap G n d = some sd) (fl : flatS sd = true) (r : RelD X.K H d x) : flatV x = true ∧ ∀ (e : D) (se : Sn) (y : V), snap G n e = some se → flatS se = true → RelD X.K H e y → eqV x y = eqF sd se := by
  have key : ∀ (d : D) (sd : Sn) (x : V), snap G n d = some sd → flatS sd = true → RelD X.K H d x → (sd = .non ∧ x = .non) ∨ (∃ b, sd = .bl b ∧ x = .bl b) ∨ (∃ i, sd = .int i ∧ x = .int i) ∨ (∃ z, sd = .str z ∧ x = .str z) := by
    intro d sd x h fl r
    cases d with
    | non => have e : Sn.non = sd := by cases n <;> exact Option.some.inj h
             subst e; exact .inl ⟨rfl, r.non_inv⟩
    | bl b => have e : Sn.bl b = sd := by cases n <;> exact Option.some.inj h
              subst e; exact .inr (.inl ⟨b, rfl, r.bl_inv⟩)
    | int b => have e : Sn.int b = sd := by cases n <;> exact Option.some.inj h
               subst e; exact .inr (.inr (.inl ⟨b, rfl, r.int_inv⟩))
    | str b => have e : Sn.str b = sd := by cases n <;> exact Option.some.inj h
               subst e; exact .inr (.inr (.inr ⟨b, rfl, r.str_inv⟩))
    | tup ds =>
      cases n with
      | zero => cases h
      | succ n =>
        have h : (ds.mapM (snap G n)).map Sn.tup = some sd := h
        obtain ⟨a, _, rfl⟩ := Option.map_eq_some_iff.mp h
        cases fl
    | ref a =>
      cases n with
      | zero => cases h
      | succ n =>
        have h : ((seqOf (G a)).bind fun ds => (ds.mapM (snap G n)).map Sn.lst) = some sd := h
        obtain ⟨ds, _, h⟩ := Option.bind_eq_some_iff.mp h
        obtain ⟨a, _, rfl⟩ := Option.map_eq_some_iff.mp h
        cases fl
    | ty t => cases n <;> cases h
  rcases key d sd x h fl r with ⟨rfl, rfl⟩ | ⟨b, rfl, rfl⟩ | ⟨b, rfl, rfl⟩ | ⟨b, rfl, rfl⟩ <;> refine ⟨rfl, fun e se y h' fl' r' => ?_⟩ <;>
    rcases key e se y h' fl' r' with ⟨rfl, rfl⟩ | ⟨c, rfl, rfl⟩ | ⟨c, rfl, rfl⟩ | ⟨c, rfl, rfl⟩ <;> rfl
theorem snap_tup {n : Nat} {ds : List D} {sd : Sn} (h : snap G n (.tup ds) = some sd) : ∃ m ss, n = m + 1 ∧ sd = .tup ss ∧ ds.mapM (snap G m) = some ss := by
  cases n with
  | zero => cases h
  | succ n =>
    obtain ⟨ss, h1, rfl⟩ := Option.map_eq_some_iff.mp (show (ds.mapM (snap G n)).map Sn.tup = some sd from h)
    exact ⟨n, ss, rfl, rfl, h1⟩
theorem snap_ref {n : Nat} {a : Addr} {sd : Sn} (h : snap G n (.ref a) = some sd) : ∃ m ds ss, n = m + 1 ∧ sd = .lst ss ∧ seqOf (G a) = some ds ∧ ds.mapM (snap G m) = some ss := by
  cases n with
  | zero => cases h
  | succ n =>
    obtain ⟨ds, h0, h⟩ := Option.bind_eq_some_iff.mp (show ((seqOf (G a)).bind fun ds => (ds.mapM (snap G n)).map Sn.lst) = some sd from h)
    obtain ⟨ss, h1, rfl⟩ := Option.map_eq_some_iff.mp h
    exact ⟨n, ds, ss, rfl, rfl, h0, h1⟩
/-- one value read twice -/
theorem eqN_flat {n : Nat} {x y : Sn} (hx : flatS x = true) : eqN n x y = if (flatS x && flatS y) = true then some (eqF x y) else none := by
  cases x with
  | tup _ => cases hx
  | lst _ => cases hx
  | non => cases n <;> rfl
  | bl _ => cases n <;> rfl
  | int _ => cases n <;> rfl
  | str _ => cases n <;> rfl
theorem eqN_some {n : Nat} {x y : Sn} {b : Bool} (h : eqN n x y = some b) (fl : ¬ (flatS x && flatS y) = true) : (∃ m xs ys, n = m + 1 ∧ x = .tup xs ∧ y = .tup ys) ∨ (∃ m xs ys, n = m + 1 ∧ x = .lst xs ∧ y = .lst ys) := by
  unfold eqN at h
  split at h
  · exact .inl ⟨_, _, _, rfl, rfl, rfl⟩
  · exact .inr ⟨_, _, _, rfl, rfl, rfl⟩
  · rw [if_neg fl] at h; cases h
theorem snap_isT {n : Nat} {d : D} {ss : List Sn} (h : snap G n d = some (.tup ss)) : ∃ ds, d = .tup ds := by
  cases d with
  | tup ds => exact ⟨ds, rfl⟩
  | ref a => obtain ⟨_, _, _, _, e', _⟩ := snap_ref h; cases e'
  | _ => cases n <;> cases h
theorem snap_isL {n : Nat} {d : D} {ss : List Sn} (h : snap G n d = some (.lst ss)) : ∃ a, d = .ref a := by
  cases d with
  | ref a => exact ⟨a, rfl⟩
  | tup ds => obtain ⟨_, _, _, e', _⟩ := snap_tup h; cases e'
  | _ => cases n <;> cases h
theorem same_flat {n : Nat} {d e : D} {x : V} {sd se : Sn} {b : Bool} (r1 : RelD X.K H d x) (r2 : RelD X.K H e x) (h1 : snap G n d = some sd) (h2 : snap G n e = some se) (hb : eqN n sd se = some b) (fl : (flatS sd && flatS se) = true) : b = true := by
  rw [Bool.and_eq_true] at fl
  have z := hb
  rw [eqN_flat fl.1, if_pos (by rw [fl.1, fl.2]; rfl)] at z
  obtain ⟨fx, k⟩ := flat_of (u := Value.none) h1 fl.1 r1
  rw [← Option.some.inj z, ← k e se x h2 fl.2 r2]
  cases x with
  | non => rfl
  | bl b => exact beq_self_eq_true b
  | int i => exact beq_self_eq_true i
  | str w => exact beq_self_eq_true w
  | _ => cases fx
theorem same_eq (I : Inv X pins σ H s) (c : Con X.K G H) : ∀ (n : Nat) (d e : D) (x : V) (sd se : Sn) (b : Bool), RelD X.K H d x → RelD X.K H e x → snap G n d = some sd → snap G n e = some se → eqN n sd se = some b → b = true := by
  intro n
  induction n with
  | zero =>
    intro d e x sd se b r1 r2 h1 h2 hb
    by_cases fl : (flatS sd && flatS se) = true
    · exact same_flat r1 r2 h1 h2 hb fl
    · rcases eqN_some hb fl with ⟨_, _, _, z, _⟩ | ⟨_, _, _, z, _⟩ <;> cases z
  | succ m ih =>
    intro d e x sd se b r1 r2 h1 h2 hb
    by_cases fl : (flatS sd && flatS se) = true
    · exact same_flat r1 r2 h1 h2 hb fl
    have items : ∀ (ds es : List D) (xs : List V) (ss ts : List Sn) (bs : List Bool), RelDs X.K H ds xs → RelDs X.K H es xs → ds.mapM (snap G m) = some ss → es.mapM (snap G m) = some ts → ((ss.zip ts).mapM fun p => eqN m p.1 p.2) = some bs → bs.all id = true := by
      intro ds es xs ss ts bs q1 q2 k1 k2 kb
      rw [List.all_eq_true]
      intro b hb
      obtain ⟨i, hi, eb⟩ := List.mem_iff_getElem.mp hb
      obtain ⟨l1, f1⟩ := mapM_some k1
      obtain ⟨l2, f2⟩ := mapM_some k2
      obtain ⟨l3, f3⟩ := mapM_some kb
      have hz : (ss.zip ts).length = min ss.length ts.length := List.length_zip
      have e1 := q1.length
      have e2 := q2.length
      have hds : i < ds.length := by omega
      have hes : i < es.length := by omega
      obtain ⟨y1, g1, s1⟩ := f1 i ds[i] (List.getElem?_eq_getElem hds)
      obtain ⟨y2, g2, s2⟩ := f2 i es[i] (List.getElem?_eq_getElem hes)
      have hzip : (ss.zip ts)[i]? = some (y1, y2) := by rw [List.getElem?_zip_eq_some]; exact ⟨g1, g2⟩
      obtain ⟨b', g3, s3⟩ := f3 i _ hzip
      rw [List.getElem?_eq_getElem hi, eb] at g3
      cases g3
      obtain ⟨z1, hz1, rz1⟩ := q1.get (List.getElem?_eq_getElem hds)
      obtain ⟨z2, hz2, rz2⟩ := q2.get (List.getElem?_eq_getElem hes)
      rw [hz1] at hz2; cases hz2
      exact ih ds[i] es[i] z1 y1 y2 b rz1 rz2 s1 s2 s3
    rcases eqN_some hb fl with ⟨m', ss, ts, em, rfl, rfl⟩ | ⟨m', ss, ts, em, rfl, rfl⟩
    · cases em
      obtain ⟨ds, rfl⟩ := snap_isT h1
      obtain ⟨es, rfl⟩ := snap_isT h2
      obtain ⟨_, _, em, ez, k1⟩ := snap_tup h1
      cases em
      cases ez
      obtain ⟨_, _, em, ez, k2⟩ := snap_tup h2
      cases em
      cases ez
      obtain ⟨a, xs, rfl, q1, rr1⟩ := r1.tup_inv
      obtain ⟨a', ys, e', q2, rr2⟩ := r2.tup_inv
      cases e'
      have := I.tuple_inj q1 q2
      subst this
      unfold eqN at hb
      split at hb
      · obtain ⟨bs, kb, rfl⟩ := Option.map_eq_some_iff.mp hb
        exact items ds es xs ss ts bs rr1 rr2 k1 k2 kb
      · cases hb
    · cases em
      obtain ⟨a, rfl⟩ := snap_isL h1
      obtain ⟨a', rfl⟩ := snap_isL h2
      cases r1.ref_inv
      have e' := r2.ref_inv
      cases e'
      obtain ⟨_, ds, _, em, ez, hs1, k1⟩ := snap_ref h1
      cases em
      cases ez
      obtain ⟨_, es, _, em, ez, hs2, k2⟩ := snap_ref h2
      cases em
      cases ez
      rw [hs1] at hs2
      cases hs2
      rw [k1] at k2
      cases k2
      obtain ⟨xs, _, rr⟩ := sql_of c hs1
      unfold eqN at hb
      split at hb
      · obtain ⟨bs, kb, rfl⟩ := Option.map_eq_some_iff.mp hb
        exact items ds ds xs ss ss bs rr rr k1 k1 kb
      · rename_i h; exact absurd rfl h
/-- the items of two sequences -/
structure SeqPair (G : Gp) (K : PySem.W.Frag) (H : Hp) (m : Nat) (its its2 : List Value) (bs : List Bool) : Prop where
  len : its.length = its2.length
  bl : bs.length = its.length
  at_ : ∀ (j : Nat) (h1 : j < its.length) (h2 : j < its2.length) (h3 : j < bs.length), ∃ d e x y sd se, RelD K H d x ∧ RelV x its[j] ∧ RelD K H e y ∧ RelV y its2[j] ∧ snap G m d = some sd ∧ snap G m e = some se ∧ eqN m sd se = some bs[j]
theorem seqPair {m : Nat} {ds es : List D} {xs ys : List V} {its its2 : List Value} {ss ts : List Sn} {bs : List Bool} (q1 : RelDs X.K H ds xs) (v1 : Vals xs its) (q2 : RelDs X.K H es ys) (v2 : Vals ys its2)
    (k1 : ds.mapM (snap G m) = some ss) (k2 : es.mapM (snap G m) = some ts) (hl : ss.length = ts.length) (kb : ((ss.zip ts).mapM fun p => eqN m p.1 p.2) = some bs) : SeqPair G X.K H m its its2 bs := by
  obtain ⟨l1, f1⟩ := mapM_some k1
  obtain ⟨l2, f2⟩ := mapM_some k2
  obtain ⟨l3, f3⟩ := mapM_some kb
  have hz : (ss.zip ts).length = min ss.length ts.length := List.length_zip
  have e1 := q1.length
  have e2 := q2.length
  have e3 := v1.length
  have e4 := v2.length
  refine ⟨by omega, by omega, fun j h1 h2 h3 => ?_⟩
  have hds : j < ds.length := by omega
  have hes : j < es.length := by omega
  obtain ⟨y1, g1, s1⟩ := f1 j ds[j] (List.getElem?_eq_getElem hds)
  obtain ⟨y2, g2, s2⟩ := f2 j es[j] (List.getElem?_eq_getElem hes)
  have hzip : (ss.zip ts)[j]? = some (y1, y2) := by rw [List.getElem?_zip_eq_some]; exact ⟨g1, g2⟩
  obtain ⟨b', g3, s3⟩ := f3 j _ hzip
  rw [List.getElem?_eq_getElem h3] at g3
  cases g3
  obtain ⟨z1, hz1, rz1⟩ := q1.get (List.getElem?_eq_getElem hds)
  obtain ⟨z2, hz2, rz2⟩ := q2.get (List.getElem?_eq_getElem hes)
  obtain ⟨u1, hu1, ru1⟩ := v1.get hz1
  obtain ⟨u2, hu2, ru2⟩ := v2.get hz2
  rw [List.getElem?_eq_getElem h1] at hu1
  rw [List.getElem?_eq_getElem h2] at hu2
  cases hu1
  cases hu2
  exact ⟨ds[j], es[j], z1, z2, y1, y2, rz1, ru1, rz2, ru2, s1, s2, s3⟩
end
end L3
namespace L3
open PySem PySem.Spec PyProof.Rows L2
set_option maxHeartbeats 4000000
section
variable {X : Cx} {pins : List (Addr × Obj)} {σ : L2.St} {H : Hp} {s : Shared} {G : Gp}
theorem eq_flat (I : Inv X pins σ H s) {n : Nat} {A : Around} {d e : D} {x y : V} {u v : Value} {sd se : Sn} {b : Bool} (r1 : RelD X.K H d x) (v1 : RelV x u) (r2 : RelD X.K H e y) (v2 : RelV y v) (h1 : snap G n d = some sd) (h2 : snap G n e = some se) (hb : eqN n sd se = some b) (fl : (flatS sd && flatS se) = true) : SeqAt.EqAt A s u v b := by
  rw [Bool.and_eq_true] at fl
  have hb' : b = eqF sd se := by
    have z := hb
    rw [eqN_flat fl.1, if_pos (by rw [fl.1, fl.2]; rfl)] at z
    exact (Option.some.inj z).symm
  obtain ⟨fx, k⟩ := flat_of (u := u) h1 fl.1 r1
  obtain ⟨fy, _⟩ := flat_of (u := v) h2 fl.2 r2
  rw [hb', ← k e se y h2 fl.2 r2]
  exact eqAt_V v1 v2 fx fy
theorem eq_at (I : Inv X pins σ H s) (c : Con X.K G H) : ∀ (n : Nat) (A : Around) (d e : D) (x y : V) (u v : Value) (sd se : Sn) (b : Bool), RelD X.K H d x → RelV x u → RelD X.K H e y → RelV y v → snap G n d = some sd → snap G n e = some se → eqN n sd se = some b → A.units + n < cLine → SeqAt.EqAt A s u v b := by
  intro n
  induction n with
  | zero =>
    intro A d e x y u v sd se b r1 v1 r2 v2 h1 h2 hb hu
    by_cases fl : (flatS sd && flatS se) = true
    · exact eq_flat I r1 v1 r2 v2 h1 h2 hb fl
    · rcases eqN_some hb fl with ⟨_, _, _, z, _⟩ | ⟨_, _, _, z, _⟩ <;> cases z
  | succ m ih =>
    intro A d e x y u v sd se b r1 v1 r2 v2 h1 h2 hb hu
    by_cases fl : (flatS sd && flatS se) = true
    · exact eq_flat I r1 v1 r2 v2 h1 h2 hb fl
    · have inner : ∀ (its its2 : List Value) (bs : List Bool), SeqPair G X.K H m its its2 bs → ∀ j (h1 : j < its.toArray.size) (h2 : j < its2.toArray.size), SeqAt.EqAt A.in1 s its.toArray[j] its2.toArray[j] ((bs[j]?).getD true) := by
        intro its its2 bs P j h1 h2
        have h1' : j < its.length := by simpa using h1
        have h2' : j < its2.length := by simpa using h2
        have h3' : j < bs.length := by rw [P.bl]; exact h1'
        obtain ⟨d', e', x', y', sd', se', a1, a2, a3, a4, a5, a6, a7⟩ := P.at_ j h1' h2' h3'
        rw [List.getElem?_eq_getElem h3']
        have hu' : A.in1.units + m < cLine := by
          have : A.in1.units = A.units + 1 := rfl
          omega
        have := ih A.in1 d' e' x' y' _ _ sd' se' _ a1 a2 a3 a4 a5 a6 a7 hu'
        simpa using this
      rcases eqN_some hb fl with ⟨m', ss, ts, em, rfl, rfl⟩ | ⟨m', ss, ts, em, rfl, rfl⟩
      · cases em
        obtain ⟨ds, rfl⟩ := snap_isT h1
        obtain ⟨es, rfl⟩ := snap_isT h2
        obtain ⟨_, _, em, ez, k1⟩ := snap_tup h1
        cases em
        cases ez
        obtain ⟨_, _, em, ez, k2⟩ := snap_tup h2
        cases em
        cases ez
        obtain ⟨a, xs, rfl, q1, rr1⟩ := r1.tup_inv
        obtain ⟨a', ys, rfl, q2, rr2⟩ := r2.tup_inv
        cases v1
        cases v2
        by_cases haa : a = a'
        · subst haa
          rw [same_eq I c (m + 1) (.tup ds) (.tup es) (.ref a) _ _ b r1 r2 h1 h2 hb]
          exact SeqAt.EqAt.same _
        · unfold eqN at hb
          split at hb
          · rename_i hlen
            obtain ⟨bs, kb, rfl⟩ := Option.map_eq_some_iff.mp hb
            obtain ⟨its, w1, t1, _⟩ := I.tuple q1
            obtain ⟨its2, w2, t2, _⟩ := I.tuple q2
            have P := seqPair rr1 w1 rr2 w2 k1 k2 hlen kb
            have R := SeqAt.RcAt.tuples (A := A) (s := s) (e := fun j => (bs[j]?).getD true) (show s.heap.IsTuple a its.toArray from t1) (show s.heap.IsTuple a' its2.toArray from t2) (by omega) (inner its its2 bs P)
            have e1 : ((List.range (min its.toArray.size its2.toArray.size)).all (fun j => (bs[j]?).getD true) && its.toArray.size == its2.toArray.size) = bs.all id := by
              have el : its.toArray.size = its2.toArray.size := by simpa using P.len
              rw [el, Nat.min_self, beq_self_eq_true, Bool.and_true]
              exact all_of (by rw [← el]; simpa using P.bl) fun i b hb => by rw [hb]; rfl
            rw [e1] at R
            exact SeqAt.EqAt.of_refs haa R
          · cases hb
      · cases em
        obtain ⟨a, rfl⟩ := snap_isL h1
        obtain ⟨a', rfl⟩ := snap_isL h2
        obtain ⟨_, ds, _, em, ez, hs1, k1⟩ := snap_ref h1
        cases em
        cases ez
        obtain ⟨_, es, _, em, ez, hs2, k2⟩ := snap_ref h2
        cases em
        cases ez
        cases r1.ref_inv
        cases r2.ref_inv
        cases v1
        cases v2
        by_cases haa : a = a'
        · subst haa
          rw [same_eq I c (m + 1) (.ref a) (.ref a) (.ref a) _ _ b r1 r2 h1 h2 hb]
          exact SeqAt.EqAt.same _
        · obtain ⟨xs, q1, rr1⟩ := sql_of c hs1
          obtain ⟨ys, q2, rr2⟩ := sql_of c hs2
          obtain ⟨its, w1, t1, _⟩ := I.list q1
          obtain ⟨its2, w2, t2, _⟩ := I.list q2
          unfold eqN at hb
          split at hb
          · rename_i hlen
            obtain ⟨bs, kb, rfl⟩ := Option.map_eq_some_iff.mp hb
            have P := seqPair rr1 w1 rr2 w2 k1 k2 hlen kb
            have el : its.toArray.size = its2.toArray.size := by simpa using P.len
            have R := SeqAt.RcAt.lists (A := A) (s := s) (e := fun j => (bs[j]?).getD true) t1.isList t2.isList el (by omega) (inner its its2 bs P)
            have e1 : ((List.range its.toArray.size).all (fun j => (bs[j]?).getD true)) = bs.all id :=
              all_of (by simpa using P.bl) fun i b hb => by rw [hb]; rfl
            rw [e1] at R
            exact SeqAt.EqAt.of_refs haa R
          · rename_i hlen
            cases hb
            have n1 := (mapM_some k1).1
            have n2 := (mapM_some k2).1
            have m1 := rr1.length
            have m2 := rr2.length
            have m3 := w1.length
            have m4 := w2.length
            exact SeqAt.EqAt.of_refs haa (SeqAt.RcAt.lists_lengths t1.isList t2.isList (by simp; omega) (by omega))
end
/-- == and != of two lists, two tuples -/
noncomputable def rEqD (K : PySem.W.Frag) (neg : Bool) : R2 := fun x y H Q => ∃ (d e : D) (G : Gp) (n : Nat) (sd se : Sn) (b : Bool), RelD K H d x ∧ RelD K H e y ∧ Con K G H ∧ n ≤ 40 ∧ snap G n d = some sd ∧ snap G n e = some se ∧ eqN n sd se = some b ∧ flatS sd = false ∧ Q (.bl (if neg then !b else b)) H
section
variable {X : Cx} {k : Nat}
theorem op_eqD (hr : Room k X.A) : OpR X (compareOp .Eq) (rEqD X.K false) := by
  intro pins s σ H x y v u Q I rx ry h
  obtain ⟨d, e, G, n, sd, se, b, r1, r2, c, hn, h1, h2, hb, fl, q⟩ := h
  have hu := hr.units
  have fin : EP X pins σ Q (.bool b) s := ⟨.bl b, H, I, rfl, q⟩
  rcases eqN_some hb (fun z => by rw [fl] at z; cases z) with ⟨m, ss, ts, rfl, rfl, rfl⟩ | ⟨m, ss, ts, rfl, rfl, rfl⟩
  · obtain ⟨ds, rfl⟩ := snap_isT h1
    obtain ⟨es, rfl⟩ := snap_isT h2
    · · · obtain ⟨_, ss', em, ez, k1⟩ := snap_tup h1
          cases em
          cases ez
          obtain ⟨m', ts', em, es', k2⟩ := snap_tup h2
          cases em
          cases es'
          obtain ⟨a, xs, rfl, q1, rr1⟩ := r1.tup_inv
          obtain ⟨a', ys, rfl, q2, rr2⟩ := r2.tup_inv
          cases rx
          cases ry
          unfold eqN at hb
          split at hb
          · rename_i hlen
            obtain ⟨bs, kb, rfl⟩ := Option.map_eq_some_iff.mp hb
            obtain ⟨its, w1, t1, _⟩ := I.tuple q1
            obtain ⟨its2, w2, t2, _⟩ := I.tuple q2
            have P := seqPair rr1 w1 rr2 w2 k1 k2 hlen kb
            refine SeqAt.eq_tupleAt (e := fun j => (bs[j]?).getD true) (show s.heap.IsTuple a its.toArray from t1) (show s.heap.IsTuple a' its2.toArray from t2) (by omega) ?_ ?_
            · intro j h1 h2
              have h1' : j < its.length := by simpa using h1
              have h2' : j < its2.length := by simpa using h2
              have h3' : j < bs.length := by rw [P.bl]; exact h1'
              obtain ⟨d', e', x', y', sd', se', a1, a2, a3, a4, a5, a6, a7⟩ := P.at_ j h1' h2' h3'
              rw [List.getElem?_eq_getElem h3']
              have := eq_at I c m X.A.in1 d' e' x' y' _ _ sd' se' _ a1 a2 a3 a4 a5 a6 a7 (by have : X.A.in1.units = X.A.units + 1 := rfl; omega)
              simpa using this
            · have e1 : ((List.range (min its.toArray.size its2.toArray.size)).all (fun j => (bs[j]?).getD true) && its.toArray.size == its2.toArray.size) = bs.all id := by
                have el : its.toArray.size = its2.toArray.size := by simpa using P.len
                rw [el, Nat.min_self, beq_self_eq_true, Bool.and_true]
                exact all_of (by rw [← el]; simpa using P.bl) fun i b hb => by rw [hb]; rfl
              rw [e1]
              exact fin
          · cases hb
  · obtain ⟨a, rfl⟩ := snap_isL h1
    obtain ⟨a', rfl⟩ := snap_isL h2
    · · · obtain ⟨_, ds, ss', em, ez, hs1, k1⟩ := snap_ref h1
          cases em
          cases ez
          obtain ⟨m', es, ts', em, es', hs2, k2⟩ := snap_ref h2
          cases em
          cases es'
          cases r1.ref_inv
          cases r2.ref_inv
          cases rx
          cases ry
          obtain ⟨xs, q1, rr1⟩ := sql_of c hs1
          obtain ⟨ys, q2, rr2⟩ := sql_of c hs2
          obtain ⟨its, w1, t1, _⟩ := I.list q1
          obtain ⟨its2, w2, t2, _⟩ := I.list q2
          unfold eqN at hb
          split at hb
          · rename_i hlen
            obtain ⟨bs, kb, rfl⟩ := Option.map_eq_some_iff.mp hb
            have P := seqPair rr1 w1 rr2 w2 k1 k2 hlen kb
            have el : its.toArray.size = its2.toArray.size := by simpa using P.len
            refine SeqAt.eq_listAt (e := fun j => (bs[j]?).getD true) t1.isList t2.isList el (by omega) ?_ ?_
            · intro j h1 h2
              have h1' : j < its.length := by simpa using h1
              have h2' : j < its2.length := by simpa using h2
              have h3' : j < bs.length := by rw [P.bl]; exact h1'
              obtain ⟨d', e', x', y', sd', se', a1, a2, a3, a4, a5, a6, a7⟩ := P.at_ j h1' h2' h3'
              rw [List.getElem?_eq_getElem h3']
              have := eq_at I c m X.A.in1 d' e' x' y' _ _ sd' se' _ a1 a2 a3 a4 a5 a6 a7 (by have : X.A.in1.units = X.A.units + 1 := rfl; omega)
              simpa using this
            · have e1 : ((List.range its.toArray.size).all (fun j => (bs[j]?).getD true)) = bs.all id :=
                all_of (by simpa using P.bl) fun i b hb => by rw [hb]; rfl
              rw [e1]
              exact fin
          · rename_i hlen
            cases hb
            have n1 := (mapM_some k1).1
            have n2 := (mapM_some k2).1
            have m1 := rr1.length
            have m2 := rr2.length
            have m3 := w1.length
            have m4 := w2.length
            exact SeqAt.eq_list_lengthsAt t1.isList t2.isList (by simp; omega) (by omega) fin
theorem op_neD (hr : Room k X.A) : OpR X (compareOp .NotEq) (rEqD X.K true) := by
  intro pins s σ H x y v u Q I rx ry h
  obtain ⟨d, e, G, n, sd, se, b, r1, r2, c, hn, h1, h2, hb, fl, q⟩ := h
  have hu := hr.units
  have fin : EP X pins σ Q (.bool (!b)) s := ⟨.bl (!b), H, I, rfl, q⟩
  rcases eqN_some hb (fun z => by rw [fl] at z; cases z) with ⟨m, ss, ts, rfl, rfl, rfl⟩ | ⟨m, ss, ts, rfl, rfl, rfl⟩
  · obtain ⟨ds, rfl⟩ := snap_isT h1
    obtain ⟨es, rfl⟩ := snap_isT h2
    · · · obtain ⟨_, ss', em, ez, k1⟩ := snap_tup h1
          cases em
          cases ez
          obtain ⟨m', ts', em, es', k2⟩ := snap_tup h2
          cases em
          cases es'
          obtain ⟨a, xs, rfl, q1, rr1⟩ := r1.tup_inv
          obtain ⟨a', ys, rfl, q2, rr2⟩ := r2.tup_inv
          cases rx
          cases ry
          unfold eqN at hb
          split at hb
          · rename_i hlen
            obtain ⟨bs, kb, rfl⟩ := Option.map_eq_some_iff.mp hb
            obtain ⟨its, w1, t1, _⟩ := I.tuple q1
            obtain ⟨its2, w2, t2, _⟩ := I.tuple q2
            have P := seqPair rr1 w1 rr2 w2 k1 k2 hlen kb
            refine SeqAt.RcNeAt.tuples (e := fun j => (bs[j]?).getD true) (show s.heap.IsTuple a its.toArray from t1) (show s.heap.IsTuple a' its2.toArray from t2) (by omega) ?_ X.prog X.w X.xe _ ?_
            · intro j h1 h2
              have h1' : j < its.length := by simpa using h1
              have h2' : j < its2.length := by simpa using h2
              have h3' : j < bs.length := by rw [P.bl]; exact h1'
              obtain ⟨d', e', x', y', sd', se', a1, a2, a3, a4, a5, a6, a7⟩ := P.at_ j h1' h2' h3'
              rw [List.getElem?_eq_getElem h3']
              have := eq_at I c m X.A.in1 d' e' x' y' _ _ sd' se' _ a1 a2 a3 a4 a5 a6 a7 (by have : X.A.in1.units = X.A.units + 1 := rfl; omega)
              simpa using this
            · have e1 : ((List.range (min its.toArray.size its2.toArray.size)).all (fun j => (bs[j]?).getD true) && its.toArray.size == its2.toArray.size) = bs.all id := by
                have el : its.toArray.size = its2.toArray.size := by simpa using P.len
                rw [el, Nat.min_self, beq_self_eq_true, Bool.and_true]
                exact all_of (by rw [← el]; simpa using P.bl) fun i b hb => by rw [hb]; rfl
              rw [e1]
              exact fin
          · cases hb
  · obtain ⟨a, rfl⟩ := snap_isL h1
    obtain ⟨a', rfl⟩ := snap_isL h2
    · · · obtain ⟨_, ds, ss', em, ez, hs1, k1⟩ := snap_ref h1
          cases em
          cases ez
          obtain ⟨m', es, ts', em, es', hs2, k2⟩ := snap_ref h2
          cases em
          cases es'
          cases r1.ref_inv
          cases r2.ref_inv
          cases rx
          cases ry
          obtain ⟨xs, q1, rr1⟩ := sql_of c hs1
          obtain ⟨ys, q2, rr2⟩ := sql_of c hs2
          obtain ⟨its, w1, t1, _⟩ := I.list q1
          obtain ⟨its2, w2, t2, _⟩ := I.list q2
          unfold eqN at hb
          split at hb
          · rename_i hlen
            obtain ⟨bs, kb, rfl⟩ := Option.map_eq_some_iff.mp hb
            have P := seqPair rr1 w1 rr2 w2 k1 k2 hlen kb
            have el : its.toArray.size = its2.toArray.size := by simpa using P.len
            refine SeqAt.RcNeAt.lists (e := fun j => (bs[j]?).getD true) t1.isList t2.isList el (by omega) ?_ X.prog X.w X.xe _ ?_
            · intro j h1 h2
              have h1' : j < its.length := by simpa using h1
              have h2' : j < its2.length := by simpa using h2
              have h3' : j < bs.length := by rw [P.bl]; exact h1'
              obtain ⟨d', e', x', y', sd', se', a1, a2, a3, a4, a5, a6, a7⟩ := P.at_ j h1' h2' h3'
              rw [List.getElem?_eq_getElem h3']
              have := eq_at I c m X.A.in1 d' e' x' y' _ _ sd' se' _ a1 a2 a3 a4 a5 a6 a7 (by have : X.A.in1.units = X.A.units + 1 := rfl; omega)
              simpa using this
            · have e1 : ((List.range its.toArray.size).all (fun j => (bs[j]?).getD true)) = bs.all id :=
                all_of (by simpa using P.bl) fun i b hb => by rw [hb]; rfl
              rw [e1]
              exact fin
          · rename_i hlen
            cases hb
            have n1 := (mapM_some k1).1
            have n2 := (mapM_some k2).1
            have m1 := rr1.length
            have m2 := rr2.length
            have m3 := w1.length
            have m4 := w2.length
            exact SeqAt.RcNeAt.lists_lengths t1.isList t2.isList (by simp; omega) (by omega) X.prog X.w X.xe _ fin
end
end L3

namespace L3
open PySem PySem.Spec PyProof.Rows L2
set_option maxHeartbeats 4000000
/-! ### a def of the text, its promise -/
structure FnAt (K : PySem.W.Frag) (x qual : Str) (st : Stmt) (ps : List Str) where
  a : Addr
  fd : FuncData
  ex : ∃ (oc : Value) (od : Option Addr) (dV kV doc pm : Value) (an : Option Addr) (cdv ct : Value) (osl : Array (Option Value)),
    fd = PySem.W.fnOf x qual (defArgs st) (defBody st) (defScope st) dV kV doc pm an cdv ct ∧ K.lookup a = some ⟨oc, od, .func fd, osl⟩ ∧ PySem.W.codeIn K cdv qual = true
  kp : PySem.W.keepIn K (.ref a) = true
  b : Binds K fd ps []
noncomputable abbrev Ok (P : Program) (w : World) {K : PySem.W.Frag} (mg : Str → Option Value) (base : Heap) (n : Nat) {x qual : Str} {st : Stmt} {ps : List Str} (d : FnAt K x qual st ps) (S : Sp3) : Prop := FnOk P w K mg base CX0 n d.a d.fd ps (lowSp K S)
noncomputable def startD (N : List Str) (ds : List D) : DSt := ds.map some ++ List.replicate (N.length - ds.length) none
theorem startD_rel {K : PySem.W.Frag} {H : Hp} {N : List Str} {ds : List D} {vs : List V} (r : RelDs K H ds vs) : RelSt K H (startD N ds) (L2.start N vs) := by
  unfold startD L2.start
  refine ⟨by simp [r.length], fun i d e => ?_⟩
  by_cases hi : i < ds.length
  · rw [List.getElem?_append_left (by simpa using hi), List.getElem?_map] at e
    rw [List.getElem?_append_left (by simpa [← r.length] using hi), List.getElem?_map]
    cases h : ds[i]? with
    | none => rw [h] at e; cases e
    | some d' =>
      rw [h] at e; cases e
      obtain ⟨v, hv, rv⟩ := r.get h
      exact ⟨v, by rw [hv]; rfl, rv⟩
  · rw [List.getElem?_append_right (by simpa using hi), List.getElem?_replicate] at e
    split at e <;> cases e
section
variable {P : Program} {w : World} {K : PySem.W.Frag} {mg : Str → Option Value} {base : Heap}
/-- THE RULE for a def -/
theorem def_ok {x qual : Str} {st : Stmt} {ps N : List Str} {k : Nat} (d : FnAt K x qual st ps) {S : Sp3} (sc : FnScope N ps (defScope st)) (hl : ∀ ds G R, S ds G R → ds.length = ps.length) {t : TS3}
    (ht : ∀ (cdv : Value) (A : Around) (outer : List Env) (s : Shared) (H : Hp) (E : XK), Room k (A.deeper (envOfC qual (defScope st) s.heap.objs.size d.a cdv)) → Ss3 (cxOf CX0 P w K mg base N qual (defScope st) d.a cdv A outer s H E).nox (defBody st) t)
    (hb : ∀ ds G R, S ds G R → t { nx := fun _ G' => R .non G', rt := R } (startD N ds) G) : Ok P w mg base (k + 1) d S := by
  obtain ⟨oc, od, dV, kV, doc, pm, an, cdv, ct, osl, e, lk, hcd⟩ := d.ex
  have lk' : K.lookup d.a = some ⟨oc, od, .func (PySem.W.fnOf x qual (defArgs st) (defBody st) (defScope st) dV kV doc pm an cdv ct), osl⟩ := e ▸ lk
  have F : FnOk P w K mg base CX0 (k + 1) d.a (PySem.W.fnOf x qual (defArgs st) (defBody st) (defScope st) dV kV doc pm an cdv ct) ps (lowSp K S) := by
    refine fn_of lk' hcd sc (fun vs H Q E h => ?_) fun A outer s H vs Q E hr h => ?_
    · obtain ⟨ds, G, R, r, _, hS, _⟩ := h
      rw [← r.length]; exact hl ds G R hS
    · obtain ⟨ds, G, R, r, c, hS, f⟩ := h
      refine ⟨_, (show PSs _ _ _ from ht cdv A outer s H E hr).nox, startD N ds, G, _, startD_rel r, c, hb ds G R hS, fun σd' G' σ' H' _ c' l' q => ?_, f, fun _ _ _ _ _ _ _ q => q.elim, fun _ _ _ _ _ _ _ q => q.elim⟩
      exact f .non G' .non H' RelD.nonI c' l' q
  have F2 := F
  rw [← e] at F2
  exact F2
end
section
variable {X : Cx} {e o : Expr} {es : List Expr} {p pos apos : Pos} {ta : TE3} {ts : TA3} {k n : Nat} {S : Sp3} {x m qual : Str} {st : Stmt} {ps : List Str} {C : Addr}
theorem ec (d : FnAt X.K x qual st ps) (hm : X.mg x = some (.ref d.a)) (G : FnOk X.prog X.w X.K X.mg X.base CX0 k d.a d.fd ps (lowSp X.K S)) (hr : Room k X.A) (ha : A3 X (e :: es) ts) (hg : Gl X x := by rfl) (hdb : (x == ("__debug__" : Str)) = false := by decide)
    (he : starEach (e :: es) X.env = (false, eval e X.env) :: starEach es X.env := by rfl) (hpl : (backTo pos (starEach es X.env)).any (·.1) = false := by rfl) : E3 X (.Call (.Name x p) (e :: es) [] pos) (dCall S [] ts) :=
  e_call G hr hg hm d.kp d.b .nil (fun _ => .nil) ha hdb he hpl
theorem em {pl : Sem Bool} (c : Cls X.K C) (d : FnAt X.K m qual st ps) (hm : Meth X.K C m d.a) (G : FnOk X.prog X.w X.K X.mg X.base CX0 k d.a d.fd ps (lowSp X.K S)) (hr : Room k X.A) (he : E3 X o ta) (ha : A3 X (e :: es) ts)
    (hse : starEach (e :: es) X.env = (false, eval e X.env) :: starEach es X.env := by rfl) (hpl : (backTo pos (starEach es X.env)).any (·.1) = false := by rfl)
    (ht : eval (.Call (.Attribute o m apos) (e :: es) [] pos) X.env = (do
      let ov ← eval o X.env
      standAt apos.atName
      let (f, first) ← holding [ov] (getMethod ov m pl)
      callWith pos f first (backTo pos (starEach (e :: es) X.env)) (backToKw pos (keywordEach [] X.env))) := by rfl) : E3 X (.Call (.Attribute o m apos) (e :: es) [] pos) (dMeth C m S [] ta ts) :=
  e_meth he c hm G hr d.b .nil (fun _ => .nil) ha hse hpl ht
end
/-! ### promises -/
/-! ### a block's scope, checked by running -/
noncomputable def blkOk (osc : Scope) (N N' : List Str) (ix : List (Option Nat)) (scope : Scope) : Bool :=
  (scope.kind == .function) && scope.names.all (fun y => y.2 != .cell) && scope.names.all (fun y => y.2 != .local || scope.names.lookup y.1 == some .local) &&
  scope.names.all (fun y => y.2 != .free || osc.names.lookup y.1 == some .cell || osc.names.lookup y.1 == some .free) && (ix.length == N'.length) &&
  (N'.zip ix).all (fun p => match p.2 with | none => true | some j => N[j]? == some p.1 && scope.names.lookup p.1 == some .free)
theorem blk {X : Cx} {osc : Scope} {N N' : List Str} {ix : List (Option Nat)} {scope : Scope} (h1 : X.env.scope = osc) (h2 : X.N = N) (h : blkOk osc N N' ix scope = true) : BlkOk X N' ix scope := by
  unfold blkOk at h
  simp only [Bool.and_eq_true] at h
  obtain ⟨⟨⟨⟨⟨a1, a2⟩, a3⟩, a4⟩, a5⟩, a6⟩ := h
  rw [List.all_eq_true] at a2 a3 a4 a6
  refine ⟨eq_of_beq a1, fun y hy => by simpa using a2 y hy, fun y hy e => ?_, fun y hy e => ?_, eq_of_beq a5, fun i j x e1 e2 => ?_⟩
  · have := a3 y hy
    simp only [e, bne_self_eq_false, Bool.false_or] at this
    exact eq_of_beq this
  · have := a4 y hy
    simp only [e, bne_self_eq_false, Bool.false_or, Bool.or_eq_true, beq_iff_eq] at this
    unfold Env.kindOf
    rw [h1]
    exact this
  · have hz : (N'.zip ix)[i]? = some (x, some j) := by rw [List.getElem?_zip_eq_some]; exact ⟨e1, e2⟩
    have := a6 _ (List.mem_of_getElem? hz)
    simp only [Bool.and_eq_true, beq_iff_eq] at this
    rw [h2]
    exact this
end L3
namespace L3
open PySem PySem.Spec PyProof.Rows L2
set_option maxHeartbeats 4000000
section
variable {X : Cx} {K : PySem.W.Frag} {H : Hp}
/-! ### slices -/
noncomputable def xSlice : RS3 := fun x lo hi G q => match x with
  | .ref a => (match seqOf (G a) with | some ds => ∀ p, G p = none → q (.ref p) (gup G p (.lst (cutD ds lo hi))) | none => False)
  | .tup ds => ¬ (HT.sIx ds.length 0 lo = 0 ∧ HT.sIx ds.length ds.length hi = ds.length) ∧ q (.tup (cutD ds lo hi)) G
  | _ => False
theorem x_sl : SlR X (lowRS X.K xSlice) := weakSl (sl_list.or sl_tup) <| by
  rintro x lo hi H Q ⟨d, G, q, r1, c, t, f⟩
  unfold xSlice at t
  split at t
  · rename_i a
    split at t
    · rename_i ds e
      obtain ⟨xs, s1, q1⟩ := sql_of c e
      exact .inl ⟨a, xs, r1.ref_inv, s1, fun p hp => f _ _ _ _ RelD.refI (c.lstNew hp (q1.cut lo hi)) (Le.fresh hp) (t p (c.fresh hp))⟩
    · exact t.elim
  · rename_i ds
    obtain ⟨a, xs, rfl, s1, q1⟩ := r1.tup_inv
    refine .inr ⟨a, xs, rfl, s1, by rw [← q1.length]; exact t.1, fun p hp => ?_⟩
    refine f (.tup _) G (.ref p) _ ?_ (c.side hp) (Le.fresh hp) t.2
    rw [RelD]
    exact ⟨p, _, rfl, SqT.of upd_same, RelDs.le (Le.fresh hp) (q1.cut lo hi)⟩
  · exact t.elim
/-! ### built-in functions -/
noncomputable def xLen : C3 := fun ds G q => match ds with
  | [.str z] => z.length ≤ sizeLine ∧ q (.int z.length) G
  | [.tup xs] => q (.int xs.length) G
  | [.ref a] => (match seqOf (G a) with | some xs => q (.int xs.length) G | none => False)
  | _ => False
theorem RelDs.one {d : D} {vs : List V} (h : RelDs K H [d] vs) : ∃ v, vs = [v] ∧ RelD K H d v := by
  obtain ⟨x, r, rfl, h1, h2⟩ := h.inv_cons
  rw [h2.inv_nil]
  exact ⟨x, rfl, h1⟩
theorem RelDs.two {d e : D} {vs : List V} (h : RelDs K H [d, e] vs) : ∃ v u, vs = [v, u] ∧ RelD K H d v ∧ RelD K H e u := by
  obtain ⟨x, r, rfl, h1, h2⟩ := h.inv_cons
  obtain ⟨y, rfl, h3⟩ := h2.one
  exact ⟨x, y, rfl, h1, h3⟩
theorem x_len : Call3 X (.builtin "len") xLen := weakCall (call_len_seq.or call_len_str) <| by
  rintro xs H Q ⟨ds, G, q, r, c, t, f⟩
  unfold xLen at t
  split at t
  · obtain ⟨v, rfl, r1⟩ := r.one
    cases r1.str_inv
    exact .inr ⟨_, rfl, t.1, f _ _ _ _ RelD.intI c (Le.refl H) t.2⟩
  · obtain ⟨v, rfl, r1⟩ := r.one
    obtain ⟨a, ys, rfl, s1, q1⟩ := r1.tup_inv
    refine .inl ⟨a, ys, rfl, .inr s1, ?_⟩
    rw [← q1.length]
    exact f _ _ _ _ RelD.intI c (Le.refl H) t
  · obtain ⟨v, rfl, r1⟩ := r.one
    cases r1.ref_inv
    split at t
    · rename_i ds e
      obtain ⟨ys, s1, q1⟩ := sql_of c e
      refine .inl ⟨_, ys, rfl, .inl s1, ?_⟩
      rw [← q1.length]
      exact f _ _ _ _ RelD.intI c (Le.refl H) t
    · exact t.elim
  · exact t.elim
noncomputable def xAbs : C3 := fun ds G q => match ds with | [.int i] => q (.int (if i < 0 then -i else i)) G | _ => False
theorem x_abs : Call3 X (.builtin "abs") xAbs := weakCall call_abs <| by
  rintro xs H Q ⟨ds, G, q, r, c, t, f⟩
  unfold xAbs at t
  split at t
  · obtain ⟨v, rfl, r1⟩ := r.one
    cases r1.int_inv
    exact ⟨_, rfl, f _ _ _ _ RelD.intI c (Le.refl H) t⟩
  · exact t.elim
noncomputable def xDivmod : C3 := fun ds G q => match ds with | [.int i, .int j] => CDiv i j ∧ q (.tup [.int (i / j), .int (i % j)]) G | _ => False
noncomputable def xMax2 : C3 := fun ds G q => match ds with | [.int i, .int j] => q (.int (if j > i then j else i)) G | _ => False
noncomputable def xMin2 : C3 := fun ds G q => match ds with | [.int i, .int j] => q (.int (if j < i then j else i)) G | _ => False
theorem x_max2 (hc : X.calm = true := by rfl) : Call3 X (.builtin "max") xMax2 := weakCall (call_max2 hc) <| by
  rintro xs H Q ⟨ds, G, q, r, c, t, f⟩
  unfold xMax2 at t
  split at t
  · obtain ⟨v, u, rfl, r1, r2⟩ := r.two
    cases r1.int_inv
    cases r2.int_inv
    exact ⟨_, _, rfl, f _ _ _ _ RelD.intI c (Le.refl H) t⟩
  · exact t.elim
noncomputable def xToInt : C3 := fun ds G q => match ds with | [.int i] => q (.int i) G | [.bl b] => q (.int (if b then 1 else 0)) G | _ => False
theorem x_toInt : Call3 X (.type "int") xToInt := weakCall call_int1 <| by
  rintro xs H Q ⟨ds, G, q, r, c, t, f⟩
  unfold xToInt at t
  split at t
  · obtain ⟨v, rfl, r1⟩ := r.one
    cases r1.int_inv
    exact .inl ⟨_, rfl, f _ _ _ _ RelD.intI c (Le.refl H) t⟩
  · obtain ⟨v, rfl, r1⟩ := r.one
    cases r1.bl_inv
    exact .inr ⟨_, rfl, f _ _ _ _ RelD.intI c (Le.refl H) t⟩
  · exact t.elim
noncomputable def xToList : C3 := fun ds G q => match ds with
  | [.tup xs] => ∀ p, G p = none → q (.ref p) (gup G p (.lst xs))
  | [.ref a] => (match seqOf (G a) with | some xs => ∀ p, G p = none → q (.ref p) (gup G p (.lst xs)) | none => False)
  | _ => False
noncomputable def xToTuple : C3 := fun ds G q => match ds with
  | [.tup xs] => q (.tup xs) G
  | [.ref a] => (match seqOf (G a) with | some xs => q (.tup xs) G | none => False)
  | _ => False
theorem x_toTuple : Call3 X (.type "tuple") xToTuple := weakCall call_tuple_of <| by
  rintro xs H Q ⟨ds, G, q, r, c, t, f⟩
  unfold xToTuple at t
  split at t
  · obtain ⟨v, rfl, r1⟩ := r.one
    obtain ⟨a, ys, rfl, s1, q1⟩ := r1.tup_inv
    exact ⟨a, ys, rfl, .inr ⟨s1, f _ _ _ _ r1 c (Le.refl H) t⟩⟩
  · obtain ⟨v, rfl, r1⟩ := r.one
    cases r1.ref_inv
    split at t
    · rename_i ds e
      obtain ⟨ys, s1, q1⟩ := sql_of c e
      refine ⟨_, ys, rfl, .inl ⟨s1, fun p hp => f (.tup _) G (.ref p) _ ?_ (c.side hp) (Le.fresh hp) t⟩⟩
      rw [RelD]
      exact ⟨p, _, rfl, SqT.of upd_same, RelDs.le (Le.fresh hp) q1⟩
    · exact t.elim
  · exact t.elim
noncomputable def allBl : List D → Option (List Bool)
  | [] => some []
  | .bl b :: r => (allBl r).map (b :: ·)
  | _ => none
theorem allBl_rel : ∀ {ds : List D} {bs : List Bool} {vs : List V}, allBl ds = some bs → RelDs K H ds vs → vs = bs.map V.bl
  | [], bs, vs, e, r => by cases e; rw [r.inv_nil]; rfl
  | .bl b :: ds, bs, vs, e, r => by
    obtain ⟨x, xs, rfl, h1, h2⟩ := r.inv_cons
    obtain ⟨bs', e', rfl⟩ := Option.map_eq_some_iff.mp (show (allBl ds).map (b :: ·) = some bs from e)
    rw [h1.bl_inv, allBl_rel e' h2]
    rfl
  | .non :: _, _, _, e, _ => by cases e
  | .int _ :: _, _, _, e, _ => by cases e
  | .str _ :: _, _, _, e, _ => by cases e
  | .tup _ :: _, _, _, e, _ => by cases e
  | .ref _ :: _, _, _, e, _ => by cases e
  | .ty _ :: _, _, _, e, _ => by cases e
noncomputable def xAll : C3 := fun ds G q => match ds with
  | [.ref a] => (match seqOf (G a) with | some xs => (match allBl xs with | some bs => q (.bl (bs.all id)) G | none => False) | none => False)
  | _ => False
theorem x_all (hc : X.calm = true := by rfl) : Call3 X (.builtin "all") xAll := weakCall (call_all hc) <| by
  rintro xs H Q ⟨ds, G, q, r, c, t, f⟩
  unfold xAll at t
  split at t
  · obtain ⟨v, rfl, r1⟩ := r.one
    cases r1.ref_inv
    split at t
    · rename_i ds e
      obtain ⟨ys, s1, q1⟩ := sql_of c e
      split at t
      · rename_i bs eb
        have := allBl_rel eb q1
        subst this
        exact ⟨_, bs, rfl, s1, f _ _ _ _ RelD.blI c (Le.refl H) t⟩
      · exact t.elim
    · exact t.elim
  · exact t.elim
noncomputable def allInt : List D → Option (List Int)
  | [] => some []
  | .int b :: r => (allInt r).map (b :: ·)
  | _ => none
theorem allInt_rel : ∀ {ds : List D} {bs : List Int} {vs : List V}, allInt ds = some bs → RelDs K H ds vs → vs = bs.map V.int
  | [], bs, vs, e, r => by cases e; rw [r.inv_nil]; rfl
  | .int b :: ds, bs, vs, e, r => by
    obtain ⟨x, xs, rfl, h1, h2⟩ := r.inv_cons
    obtain ⟨bs', e', rfl⟩ := Option.map_eq_some_iff.mp (show (allInt ds).map (b :: ·) = some bs from e)
    rw [h1.int_inv, allInt_rel e' h2]
    rfl
  | .non :: _, _, _, e, _ => by cases e
  | .bl _ :: _, _, _, e, _ => by cases e
  | .str _ :: _, _, _, e, _ => by cases e
  | .tup _ :: _, _, _, e, _ => by cases e
  | .ref _ :: _, _, _, e, _ => by cases e
  | .ty _ :: _, _, _, e, _ => by cases e
noncomputable def xSum : C3 := fun ds G q => match ds with
  | [.ref a] => (match seqOf (G a) with | some xs => (match allInt xs with | some bs => q (.int bs.sum) G | none => False) | none => False)
  | _ => False
theorem x_sum (hc : X.calm = true := by rfl) : Call3 X (.builtin "sum") xSum := weakCall (call_sum hc) <| by
  rintro xs H Q ⟨ds, G, q, r, c, t, f⟩
  unfold xSum at t
  split at t
  · obtain ⟨v, rfl, r1⟩ := r.one
    cases r1.ref_inv
    split at t
    · rename_i ds e
      obtain ⟨ys, s1, q1⟩ := sql_of c e
      split at t
      · rename_i bs eb
        have := allInt_rel eb q1
        subst this
        exact ⟨_, bs, rfl, s1, f _ _ _ _ RelD.intI c (Le.refl H) t⟩
      · exact t.elim
    · exact t.elim
  · exact t.elim
/-! ### isinstance -/
noncomputable def kindD (G : Gp) : D → Option String
  | .non => some "NoneType"
  | .bl _ => some "bool"
  | .int _ => some "int"
  | .str _ => some "str"
  | .ref a => match G a with | some (.lst _) => some "list" | some (.fro _) => some "list" | some (.dic _) => some "dict" | _ => none
  | _ => none
noncomputable def xIsinst : C3 := fun ds G q => match ds with
  | [x, .ty T] => (T = "int" ∨ T = "str" ∨ T = "bool" ∨ T = "list" ∨ T = "tuple" ∨ T = "dict") ∧ (match kindD G x with | some n => q (.bl (subK n T)) G | none => False)
  | _ => False
theorem x_isinst : Call3 X (.builtin "isinstance") xIsinst := weakCall call_isinst <| by
  rintro xs H Q ⟨ds, G, q, r, c, t, f⟩
  unfold xIsinst at t
  split at t
  · rename_i d T
    obtain ⟨v, u, rfl, r1, r2⟩ := r.two
    rw [RelD] at r2
    subst r2
    obtain ⟨hT, t⟩ := t
    split at t
    · rename_i n en
      refine ⟨v, n, T, rfl, ?_, hT, f _ _ _ _ RelD.blI c (Le.refl H) t⟩
      unfold kindD at en
      split at en
      · cases r1.non_inv; cases en; rfl
      · cases r1.bl_inv; cases en; rfl
      · cases r1.int_inv; cases en; rfl
      · cases r1.str_inv; cases en; rfl
      · rename_i a
        cases r1.ref_inv
        split at en
        · rename_i xs ea; cases en; obtain ⟨ys, h1, _⟩ := c _ _ ea; exact .inl ⟨rfl, .inl ⟨ys, h1⟩⟩
        · rename_i xs ea; cases en; obtain ⟨o, ys, h1, _⟩ := c _ _ ea; exact .inl ⟨rfl, .inr ⟨o, ys, h1⟩⟩
        · rename_i xs ea; cases en; obtain ⟨ys, h1, _⟩ := c _ _ ea; exact .inr (.inr ⟨rfl, ys, h1⟩)
        · cases en
      · cases en
    · exact t.elim
  · exact t.elim
/-- the name of a built-in type as a value -/
theorem e_type {x : Str} {T : String} {pos : Pos} (hm : X.mg x = none) (hv : bootBuiltins x = some (.type T)) (hg : Gl X x := by rfl) (hn : x ≠ "__name__" := by decide) (hd : (x == ("__debug__" : Str)) = false := by decide) : E3 X (.Name x pos) (dC (.ty T)) :=
  weakE (pe_bltn (v := .ty T) hg hm hv rfl hn hd) fun _ _ _ => low_c fun _ => by rw [RelD]
/-! ### is -/
noncomputable def xIs2 : R3 := fun x y G q => match y with
  | .non => (match x with | .non => q (.bl true) G | _ => q (.bl false) G)
  | .bl b => (match x with | .bl c => q (.bl (decide (c = b))) G | _ => q (.bl false) G)
  | _ => False
noncomputable def xIsNot2 : R3 := fun x y G q => match y with
  | .non => (match x with | .non => q (.bl false) G | _ => q (.bl true) G)
  | .bl b => (match x with | .bl c => q (.bl (!decide (c = b))) G | _ => q (.bl true) G)
  | _ => False
theorem RelD.not_bl {d : D} {v : V} (h : RelD K H d v) (b : Bool) (n : ∀ c, d ≠ .bl c) : v ≠ .bl b := by
  cases d with
  | bl c => exact absurd rfl (n c)
  | non => rw [h.non_inv]; exact fun z => nomatch z
  | int _ => rw [h.int_inv]; exact fun z => nomatch z
  | str _ => rw [h.str_inv]; exact fun z => nomatch z
  | ref _ => rw [h.ref_inv]; exact fun z => nomatch z
  | ty _ => rw [RelD] at h; rw [h]; exact fun z => nomatch z
  | tup _ => obtain ⟨a, xs, e, _⟩ := h.tup_inv; rw [e]; exact fun z => nomatch z
theorem dec_blbl {c b : Bool} : decide (V.bl c = V.bl b) = decide (c = b) := by cases c <;> cases b <;> rfl
theorem x_isNot2 : Op3 X (compareOp .IsNot) xIsNot2 := weakOp (op_notN.or op_isNotB) <| by
  rintro x y H Q ⟨d, e, G, q, r1, r2, c, t, f⟩
  unfold xIsNot2 at t
  split at t
  · refine .inl ⟨r2.non_inv, ?_⟩
    split at t
    · rw [r1.non_inv]
      exact f _ _ _ _ RelD.blI c (Le.refl H) t
    · rename_i hd
      rw [decide_eq_false (r1.not_non fun z => hd z)]
      exact f _ _ _ _ RelD.blI c (Le.refl H) t
  · rename_i b
    refine .inr ⟨b, r2.bl_inv, ?_⟩
    split at t
    · rw [r1.bl_inv, dec_blbl]
      exact f _ _ _ _ RelD.blI c (Le.refl H) t
    · rename_i hd
      rw [decide_eq_false (r1.not_bl b fun z hz => hd z hz)]
      exact f _ _ _ _ RelD.blI c (Le.refl H) t
  · exact t.elim
end
/-! ### unpacking, what is walked -/
noncomputable def jSeq (n : Nat) (t : TGs3) : TG3 := fun d σ G q => match d with
  | .tup ds => ds.length = n ∧ t ds σ G q
  | .ref a => (match seqOf (G a) with | some ds => ds.length = n ∧ t ds σ G q | none => False)
  | _ => False
noncomputable def wAny (te : TE3) : TI3 := fun σ G r => te σ G fun x G1 => match x with
  | .ref a => (match seqOf (G1 a) with | some ds => r ⟨ds, fun G => seqOf (G a) = some ds⟩ G1 | none => False)
  | .tup ds => r ⟨ds, fun _ => True⟩ G1
  | _ => False
section
variable {X : Cx} {es : List Expr} {e tg : Expr} {te : TE3} {pos : Pos}
theorem j_seq {k n : Nat} {t : TGs3} (hc : X.calm = true) (h : Js3 X es t) (hn : (assignEach es X.env).length = n := by rfl) (hst : (assignEach es X.env).findIdx? (·.1) = none := by rfl) : J3 X (.Tuple es k pos) (jSeq n t) :=
  weakG (pg_or (pg_tup hc h hn hst) (pg_list hc h hn hst)) fun v σ H Q hh => by
    obtain ⟨d, σd, G, q, r, rs, c, t, f⟩ := hh
    unfold jSeq at t
    split at t
    · rename_i ds
      obtain ⟨a, xs, rfl, s, r2⟩ := r.tup_inv
      exact .inl ⟨a, xs, rfl, s, by rw [← r2.length]; exact t.1, ds, σd, G, q, r2, rs, c, t.2, f⟩
    · rename_i a
      split at t
      · rename_i ds e
        obtain ⟨xs, s, r'⟩ := sql_of c e
        exact .inr ⟨a, xs, r.ref_inv, s, by rw [← r'.length]; exact t.1, ds, σd, G, q, r', rs, c, t.2, f⟩
      · exact t.elim
    · exact t.elim
theorem i_any (h : E3 X e te) : I3 X tg e (wAny te) := weakI (pi_seq h) fun σ H R hh => by
  obtain ⟨σd, G, q, rs, c, t, f⟩ := hh
  refine ⟨σd, G, _, rs, c, t, fun x G1 v H1 r1 c1 l1 t1 => ?_⟩
  split at t1
  · rename_i a
    split at t1
    · rename_i ds e
      obtain ⟨xs, s, _⟩ := sql_of c1 e
      exact ⟨a, r1.ref_inv, .inl ⟨⟨xs, s⟩, f _ _ _ _ itrel_list c1 l1 t1⟩⟩
    · exact t1.elim
  · rename_i ds
    obtain ⟨a, xs, rfl, s, r⟩ := r1.tup_inv
    exact ⟨a, rfl, .inr ⟨⟨xs, s⟩, f _ _ _ _ (itrel_tup s r) c1 l1 t1⟩⟩
  · exact t1.elim
end
/-! ### methods of lists -/
section
variable {X : Cx} {e o : Expr} {es : List Expr} {to : TE3} {ts : TA3} {apos cpos : Pos}
theorem ty_list (K : PySem.W.Frag) : ∀ G H x v, Con K G H → RelD K H x v → tyD G "list" x → tyV K "list" v H := by
  intro G H x v c r t
  cases x with
  | ref a =>
    cases r.ref_inv
    cases e : G a with
    | none => simp [tyD, e] at t
    | some o =>
      cases o with
      | lst ds => obtain ⟨xs, s, _⟩ := sql_of (ds := ds) c (by rw [e]; rfl); exact .inl ⟨rfl, xs, s⟩
      | fro ds => obtain ⟨xs, s, _⟩ := sql_of (ds := ds) c (by rw [e]; rfl); exact .inl ⟨rfl, xs, s⟩
      | dic _ => simp [tyD, e] at t
      | dit _ => simp [tyD, e] at t
      | ins _ _ => simp [tyD, e] at t
      | exc _ _ => simp [tyD, e] at t
  | str _ => simp [tyD] at t
  | int _ => simp [tyD] at t
  | _ => exact t.elim
noncomputable def mAppend : M3 := fun x ds G q => match x, ds with
  | .ref a, [d] => (match G a with | some (.lst xs) => xs.length < sizeLine ∧ q .non (gup G a (.lst (xs ++ [d]))) | _ => False)
  | _, _ => False
theorem e_append (ho : E3 X o to) (ha : A3 X (e :: es) ts) (hbase : attributeBase o "append" X.env (eval o X.env) = eval o X.env := by rfl)
    (hfew : ((backTo cpos (starEach (e :: es) X.env)).all (fun x => !x.1) && (backToKw cpos (keywordEach [] X.env)).all (fun x => x.1.isSome)
      && decide ((e :: es).length + ([] : List Keyword).length + (if ([] : List Keyword).isEmpty then 0 else 1) < 30)) = true := by rfl)
    (hline : (apos.endLine == cpos.line) = true := by rfl) (hs : starEach (e :: es) X.env = (false, eval e X.env) :: starEach es X.env := by rfl) (hplain : (backTo cpos (starEach es X.env)).any (·.1) = false := by rfl) :
    E3 X (.Call (.Attribute o "append" apos) (e :: es) [] cpos) (dBM "list" mAppend to ts) :=
  weakE (pe_bm PySem.F.plainAttrs_list PySem.F.slot_list_append PySem.F.type_list_append (weakMt (r' := lowM X.K mAppend) mt_append <| by
    rintro x xs H Q ⟨d, ds, G, q, r1, r2, c, t, f⟩
    unfold mAppend at t
    split at t
    · rename_i a d'
      split at t
      · rename_i ys ea
        cases r1.ref_inv
        obtain ⟨v, rfl, rv⟩ := r2.one
        obtain ⟨zs, h1, q1⟩ := c _ _ ea
        exact ⟨a, zs, v, rfl, rfl, h1, by rw [← q1.length]; exact t.1, f _ _ _ _ RelD.nonI (c.lstSet h1 (q1.append (.cons rv .nil))) (Le.lst h1) t.2⟩
      · exact t.elim
    · exact t.elim) ho ha hbase hfew hline hs hplain) fun _ _ _ => low_bm (ty_list X.K)
noncomputable def mExtend : M3 := fun x ds G q => match x, ds with
  | .ref a, [.ref b] => (match G a, G b with | some (.lst xs), some (.lst ys) => xs.length + ys.length ≤ sizeLine ∧ q .non (gup G a (.lst (xs ++ ys))) | _, _ => False)
  | _, _ => False
noncomputable def mPop0 : M3 := fun x ds G q => match x, ds with
  | .ref a, [] => (match G a with | some (.lst xs) => (match xs[xs.length - 1]? with | some y => q y (gup G a (.lst xs.dropLast)) | none => False) | _ => False)
  | _, _ => False
theorem e_pop0 (ho : E3 X o to) (hbase : attributeBase o "pop" X.env (eval o X.env) = eval o X.env := by rfl) (hline : (apos.endLine == cpos.line) = true := by rfl) : E3 X (.Call (.Attribute o "pop" apos) [] [] cpos) (dBM0 "list" mPop0 to) :=
  weakE (pe_bm0 PySem.F.plainAttrs_list PySem.F.slot_list_pop PySem.F.type_list_pop (weakMt (r' := lowM X.K mPop0) mt_pop <| by
    rintro x xs H Q ⟨d, ds, G, q, r1, r2, c, t, f⟩
    unfold mPop0 at t
    split at t
    · rename_i a
      split at t
      · rename_i ys ea
        split at t
        · rename_i y ey
          cases r1.ref_inv
          cases r2.inv_nil
          obtain ⟨zs, h1, q1⟩ := c _ _ ea
          obtain ⟨v, hv, rv⟩ := q1.get ey
          exact ⟨a, zs, v, rfl, rfl, h1, by rw [← q1.length]; exact hv, f _ _ _ _ (RelD.le (Le.lst h1) rv) (c.lstSet h1 q1.dropLast) (Le.lst h1) t⟩
        · exact t.elim
      · exact t.elim
    · exact t.elim) ho hbase hline) fun _ _ _ => low_bm0 (ty_list X.K)
noncomputable def mClear0 : M3 := fun x ds G q => match x, ds with
  | .ref a, [] => (match G a with | some (.lst _) => q .non (gup G a (.lst [])) | _ => False)
  | _, _ => False
end
/-! ### ==, != -/
noncomputable def xEqB (neg : Bool) : R3 := fun x y G q => match x, y with
  | .int i, .int j => q (.bl (if neg then !decide (i = j) else decide (i = j))) G
  | .str i, .str j => q (.bl (if neg then !decide (i = j) else decide (i = j))) G
  | .bl i, .bl j => q (.bl (if neg then !decide (i = j) else decide (i = j))) G
  | .non, .non => q (.bl (!neg)) G
  | .non, .int _ => q (.bl neg) G
  | .int _, .non => q (.bl neg) G
  | .non, .bl _ => q (.bl neg) G
  | .bl _, .non => q (.bl neg) G
  | .non, .str _ => q (.bl neg) G
  | .str _, .non => q (.bl neg) G
  | .int _, .str _ => q (.bl neg) G
  | .str _, .int _ => q (.bl neg) G
  | .tup xs, .tup ys => ∃ n sd se b, n ≤ 40 ∧ snap G n (.tup xs) = some sd ∧ snap G n (.tup ys) = some se ∧ eqN n sd se = some b ∧ q (.bl (if neg then !b else b)) G
  | .ref a, .ref c => ∃ n sd se b, n ≤ 40 ∧ snap G n (.ref a) = some sd ∧ snap G n (.ref c) = some se ∧ eqN n sd se = some b ∧ q (.bl (if neg then !b else b)) G
  | _, _ => False

section
variable {X : Cx} {k : Nat}
theorem dec_int' {i j : Int} : decide (V.int i = V.int j) = decide (i = j) := by
  by_cases h : i = j
  · subst h; simp
  · simp [h]
theorem dec_str' {i j : Str} : decide (V.str i = V.str j) = decide (i = j) := by
  by_cases h : i = j
  · subst h; simp
  · simp [h]
theorem snap_nonflat_tup {G : Gp} {n : Nat} {xs : List D} {sd : Sn} (h : snap G n (.tup xs) = some sd) : flatS sd = false := by
  obtain ⟨_, _, _, rfl, _⟩ := snap_tup h; rfl
theorem snap_nonflat_ref {G : Gp} {n : Nat} {a : Addr} {sd : Sn} (h : snap G n (.ref a) = some sd) : flatS sd = false := by
  obtain ⟨_, _, _, _, rfl, _⟩ := snap_ref h; rfl
theorem x_eq (hr : Room k X.A) : Op3 X (compareOp .Eq) (xEqB false) := weakOp (op_eq.or (op_eqD hr)) <| by
  rintro x y H Q ⟨d, e, G, q, r1, r2, c, t, f⟩
  have fin : ∀ b, q (.bl b) G → Q (.bl b) H := fun b z => f _ _ _ _ RelD.blI c (Le.refl H) z
  unfold xEqB at t
  split at t
  · cases r1.int_inv; cases r2.int_inv; exact .inl ⟨rfl, by rw [dec_int']; exact fin _ t⟩
  · cases r1.str_inv; cases r2.str_inv; exact .inl ⟨rfl, by rw [dec_str']; exact fin _ t⟩
  · cases r1.bl_inv; cases r2.bl_inv; exact .inl ⟨rfl, by rw [dec_blbl]; exact fin _ t⟩
  · cases r1.non_inv; cases r2.non_inv; exact .inl ⟨rfl, fin _ t⟩
  · cases r1.non_inv; cases r2.int_inv; exact .inl ⟨rfl, fin _ t⟩
  · cases r1.int_inv; cases r2.non_inv; exact .inl ⟨rfl, fin _ t⟩
  · cases r1.non_inv; cases r2.bl_inv; exact .inl ⟨rfl, fin _ t⟩
  · cases r1.bl_inv; cases r2.non_inv; exact .inl ⟨rfl, fin _ t⟩
  · cases r1.non_inv; cases r2.str_inv; exact .inl ⟨rfl, fin _ t⟩
  · cases r1.str_inv; cases r2.non_inv; exact .inl ⟨rfl, fin _ t⟩
  · cases r1.int_inv; cases r2.str_inv; exact .inl ⟨rfl, fin _ t⟩
  · cases r1.str_inv; cases r2.int_inv; exact .inl ⟨rfl, fin _ t⟩
  · obtain ⟨n, sd, se, b, hn, h1, h2, hb, t⟩ := t
    exact .inr ⟨_, _, G, n, sd, se, b, r1, r2, c, hn, h1, h2, hb, snap_nonflat_tup h1, fin _ t⟩
  · obtain ⟨n, sd, se, b, hn, h1, h2, hb, t⟩ := t
    exact .inr ⟨_, _, G, n, sd, se, b, r1, r2, c, hn, h1, h2, hb, snap_nonflat_ref h1, fin _ t⟩
  · exact t.elim
theorem x_ne (hr : Room k X.A) : Op3 X (compareOp .NotEq) (xEqB true) := weakOp (op_ne.or (op_neD hr)) <| by
  rintro x y H Q ⟨d, e, G, q, r1, r2, c, t, f⟩
  have fin : ∀ b, q (.bl b) G → Q (.bl b) H := fun b z => f _ _ _ _ RelD.blI c (Le.refl H) z
  unfold xEqB at t
  split at t
  · cases r1.int_inv; cases r2.int_inv; exact .inl ⟨rfl, by rw [dec_int']; exact fin _ t⟩
  · cases r1.str_inv; cases r2.str_inv; exact .inl ⟨rfl, by rw [dec_str']; exact fin _ t⟩
  · cases r1.bl_inv; cases r2.bl_inv; exact .inl ⟨rfl, by rw [dec_blbl]; exact fin _ t⟩
  · cases r1.non_inv; cases r2.non_inv; exact .inl ⟨rfl, fin _ t⟩
  · cases r1.non_inv; cases r2.int_inv; exact .inl ⟨rfl, fin _ t⟩
  · cases r1.int_inv; cases r2.non_inv; exact .inl ⟨rfl, fin _ t⟩
  · cases r1.non_inv; cases r2.bl_inv; exact .inl ⟨rfl, fin _ t⟩
  · cases r1.bl_inv; cases r2.non_inv; exact .inl ⟨rfl, fin _ t⟩
  · cases r1.non_inv; cases r2.str_inv; exact .inl ⟨rfl, fin _ t⟩
  · cases r1.str_inv; cases r2.non_inv; exact .inl ⟨rfl, fin _ t⟩
  · cases r1.int_inv; cases r2.str_inv; exact .inl ⟨rfl, fin _ t⟩
  · cases r1.str_inv; cases r2.int_inv; exact .inl ⟨rfl, fin _ t⟩
  · obtain ⟨n, sd, se, b, hn, h1, h2, hb, t⟩ := t
    exact .inr ⟨_, _, G, n, sd, se, b, r1, r2, c, hn, h1, h2, hb, snap_nonflat_tup h1, fin _ t⟩
  · obtain ⟨n, sd, se, b, hn, h1, h2, hb, t⟩ := t
    exact .inr ⟨_, _, G, n, sd, se, b, r1, r2, c, hn, h1, h2, hb, snap_nonflat_ref h1, fin _ t⟩
  · exact t.elim
end
end L3

namespace L3
open PySem PySem.Spec PyProof.Rows L2
set_option maxHeartbeats 4000000
section
variable {X : Cx} {e : Expr} {es : List Expr} {p pos : Pos} {ts : TA3} {k : Nat} {S : Sp3} {x m qual : Str} {st : Stmt} {ps : List Str} {C : Addr}
end
section
variable {X : Cx} {e : Expr} {es : List Expr} {p pos : Pos} {ts : TA3} {k : Nat} {S : Sp3} {x m qual : Str} {st : Stmt} {ps : List Str} {C f : Addr} {fd : FuncData}
theorem e_const {i : Int} (h : ∃ t, X.mg x = some (.int i t)) (hg : Gl X x := by rfl) (hdb : (x == ("__debug__" : Str)) = false := by decide) : E3 X (.Name x pos) (dC (.int i)) := by
  obtain ⟨t, h⟩ := h
  exact e_glob hg h (v := .int i) ⟨t, rfl⟩ (fun _ => RelD.intI) hdb
end
/-! ### readings: small words -/
theorem ite_d {c A B : Prop} [Decidable c] (h1 : c → A) (h2 : ¬ c → B) : if decide c = true then A else B := by
  by_cases h : c
  · simpa [h] using h1 h
  · simpa [h] using h2 h
theorem seqOf_lst {xs : List D} : seqOf (some (.lst xs)) = some xs := rfl
theorem seqOf_fro {xs : List D} : seqOf (some (.fro xs)) = some xs := rfl

theorem atI_0 {α : Type} {x : α} {xs : List α} : atI (x :: xs) 0 = some x := atI_nat (j := 0) rfl
theorem atI_1 {α : Type} {x y : α} {xs : List α} : atI (x :: y :: xs) 1 = some y := atI_nat (j := 1) rfl
theorem atI_2 {α : Type} {x y z : α} {xs : List α} : atI (x :: y :: z :: xs) 2 = some z := atI_nat (j := 2) rfl
theorem atI_3 {α : Type} {x y z u : α} {xs : List α} : atI (x :: y :: z :: u :: xs) 3 = some u := atI_nat (j := 3) rfl
theorem atI_4 {α : Type} {x y z u v : α} {xs : List α} : atI (x :: y :: z :: u :: v :: xs) 4 = some v := atI_nat (j := 4) rfl
theorem ixN_30 : ixN 3 0 = some 0 := rfl
theorem ixN_31 : ixN 3 1 = some 1 := rfl
theorem ixN_32 : ixN 3 2 = some 2 := rfl
theorem ixN_20 : ixN 2 0 = some 0 := rfl
theorem ixN_21 : ixN 2 1 = some 1 := rfl
theorem ixN_int {n : Nat} {i : Int} (h0 : 0 ≤ i) (h : i < n) : ixN n i = some i.toNat := by
  unfold ixN
  rw [if_pos h0, if_pos h]
theorem atI_int {α : Type} {xs : List α} {i : Int} (h0 : 0 ≤ i) (h : i < xs.length) : atI xs i = some (xs[i.toNat]'(by omega)) := by
  unfold atI
  rw [ixN_int h0 h]
  exact List.getElem?_eq_getElem _
theorem atI_map {α β : Type} {f : α → β} {xs : List α} {i : Int} (h0 : 0 ≤ i) (h : i < xs.length) : atI (xs.map f) i = some (f (xs[i.toNat]'(by omega))) := by
  rw [atI_int h0 (by simpa using h)]
  simp
theorem cmul_l {i j : Int} (h0 : 0 ≤ i) (h : i < 18446744073709551616) : CMul i j := .inl ⟨by omega, by omega⟩
theorem cmul_r {i j : Int} (h0 : 0 ≤ j) (h : j < 18446744073709551616) : CMul i j := .inr ⟨by omega, by omega⟩
theorem cpow_2 {j : Int} (h0 : 0 ≤ j) (h : j ≤ 1000) : CPow 2 j := ⟨h0, by omega, by decide⟩
theorem cpow_1 {j : Int} (h0 : 0 ≤ j) (h : j ≤ 1000) : CPow 1 j := ⟨h0, by omega, by decide⟩
end L3
namespace L3
theorem call_det {S : Sp3} {ds : List D} {G G1 : Gp} {v : D} {q : DK} (h : ∀ R : DK, R v G1 → S ds G R) (k : q v G1) : ∃ R, S ds G R ∧ ∀ d G', R d G' → q d G' :=
  ⟨fun d G' => d = v ∧ G' = G1, h _ ⟨rfl, rfl⟩, fun _ _ ⟨e1, e2⟩ => by subst e1; subst e2; exact k⟩
theorem call_nd {S : Sp3} {ds : List D} {G : Gp} {post : DK} {q : DK} (h : ∀ R : DK, (∀ d G', post d G' → R d G') → S ds G R) (k : ∀ d G', post d G' → q d G') : ∃ R, S ds G R ∧ ∀ d G', R d G' → q d G' :=
  ⟨post, h _ fun _ _ z => z, k⟩
end L3
namespace L3
theorem forL_ind {ok : Gp → Prop} {g : TG3} {tb : TS3} {E : Ends3} (I : List D → DSt → Gp → Prop) {items : List D} {σ : DSt} {G : Gp} (h0 : I items σ G) (nil : ∀ σ G, I [] σ G → ok G ∧ E.nx σ G)
    (cons : ∀ x r σ G, I (x :: r) σ G → (∀ σ' G', I r σ' G' → forL ok g tb E r σ' G') → ok G ∧ g x σ G fun σ1 G1 => tb { E with nx := forL ok g tb E r, ct := forL ok g tb E r, bk := E.nx } σ1 G1) : forL ok g tb E items σ G := by
  induction items generalizing σ G with
  | nil => exact nil σ G h0
  | cons x r ih => exact cons x r σ G h0 fun σ' G' h => ih h
theorem compL_ind {ok : Gp → Prop} {g : TG3} {tc : TT3} {te : TE3} {p : PySem.Addr} {q : DK} (I : List D → DSt → Gp → Prop) {items : List D} {σ : DSt} {G : Gp} (h0 : I items σ G) (nil : ∀ σ G, I [] σ G → ok G ∧ q (.ref p) G)
    (cons : ∀ x r σ G, I (x :: r) σ G → (∀ σ' G', I r σ' G' → compL ok g tc te p q r σ' G') → ok G ∧ g x σ G fun σ2 G2 => tc σ2 G2 fun b G3 =>
      if b = true then te σ2 G3 fun d G4 => (match G4 p with | some (.lst ys) => ys.length < PySem.sizeLine ∧ compL ok g tc te p q r σ2 (gup G4 p (.lst (ys ++ [d]))) | _ => False)
      else compL ok g tc te p q r σ2 G3) : compL ok g tc te p q items σ G := by
  induction items generalizing σ G with
  | nil => exact nil σ G h0
  | cons x r ih => exact cons x r σ G h0 fun σ' G' h => ih h
theorem while_ind {c : TT3} {tb : TS3} {E : Ends3} (I : Nat → DSt → Gp → Prop) {m : Nat} {σ : DSt} {G : Gp} (h0 : I m σ G)
    (step : ∀ m σ G N, I m σ G → (∀ σ' G' m', m = m' + 1 → I m' σ' G' → N σ' G') → c σ G fun b G1 => if b = true then tb { E with nx := N, ct := N, bk := E.nx } σ G1 else E.nx σ G1) : dWhile c tb E σ G := by
  refine ⟨m + 1, ?_⟩
  induction m generalizing σ G with
  | zero => exact step 0 σ G (whN c tb E 0) h0 fun σ' G' m' e => absurd e (by omega)
  | succ m ih => exact step (m + 1) σ G (whN c tb E (m + 1)) h0 fun σ' G' m' e h => ih (by cases e; exact h)
end L3

namespace L3
open PySem
end L3

namespace Rw
open PySem PyProof.Rows L2 L3
/-! rows of codes, what they do; data -/
inductive Opd where
  | num (n : Int) | box (y : Nat)
inductive Row where
  | add (x : Nat) (o : Opd) | take (x : Nat) (o : Opd) | turn (x i : Nat) (cs : List (Nat × Nat)) | swap (x y : Nat) | go (x : Nat) (n : Int) (k : Nat) | come (x : Nat) (n : Int) (k : Nat)
noncomputable def Opd.d : Opd → D
  | .num n => .tup [.str "num", .int n]
  | .box y => .tup [.str "box", .int (y : Int)]
noncomputable def cd (c : Nat × Nat) : D := .tup [.int (c.1 : Int), .int (c.2 : Int)]
noncomputable def Row.d : Row → D
  | .add x o => .tup [.str "add", .int (x : Int), o.d]
  | .take x o => .tup [.str "take", .int (x : Int), o.d]
  | .turn x i cs => .tup [.str "turn", .int (x : Int), .int (i : Int), .tup (cs.map cd)]
  | .swap x y => .tup [.str "swap", .int (x : Int), .int (y : Int)]
  | .go x n k => .tup [.str "go", .int (x : Int), .int n, .int (k : Int)]
  | .come x n k => .tup [.str "come", .int (x : Int), .int n, .int (k : Int)]
noncomputable def Opd.ok (sz x : Nat) : Opd → Prop
  | .num n => 0 ≤ n ∧ n < 4294967296
  | .box y => y < sz ∧ y ≠ x
noncomputable def Row.ok (sz : Nat) : Row → Prop
  | .add x o => x < sz ∧ o.ok sz x
  | .take x o => x < sz ∧ o.ok sz x
  | .turn x i cs => x < sz ∧ i < 32 ∧ cs.length ≤ 2 ∧ ∀ c ∈ cs, c.1 < sz ∧ c.1 ≠ x ∧ c.2 < 32
  | .swap x y => x < sz ∧ y < sz ∧ y ≠ x
  | .go x n _ => x < sz ∧ 0 ≤ n ∧ n < 4294967296
  | .come x n _ => x < sz ∧ 0 ≤ n ∧ n < 4294967296
noncomputable def Row.plain : Row → Bool
  | .go _ _ _ => false
  | .come _ _ _ => false
  | _ => true
noncomputable def bit (v : Int) (j : Nat) : Int := v / 2 ^ j % 2
noncomputable def flp (v : Int) (i : Nat) : Int := v + 2 ^ i * (1 - 2 * bit v i)
structure BsOk (sz : Nat) (bs : List Int) : Prop where
  len : bs.length = sz
  rng : ∀ v ∈ bs, 0 ≤ v ∧ v < 4294967296

end Rw

namespace Rw
open PySem L2 L3
end Rw
namespace Rw
open PySem L2 L3
theorem rngD_succ (lo : Int) (n : Nat) : rngD lo (n + 1) = .int lo :: rngD (lo + 1) n := by
  unfold rngD
  rw [List.range_succ_eq_map, List.map_cons, List.map_map]
  congr 1
  · simp
  · apply List.map_congr_left
    intro i _
    show D.int _ = D.int _
    congr 1
    simp
    omega
end Rw
namespace Rw
open PySem L2 L3
structure Grow (G G' : Gp) : Prop where
  kp : ∀ b o, G b = some o → G' b = some o
theorem Grow.refl {G : Gp} : Grow G G := ⟨fun _ _ h => h⟩
theorem Grow.trans {G G1 G2 : Gp} (a : Grow G G1) (b : Grow G1 G2) : Grow G G2 := ⟨fun c o h => b.kp c o (a.kp c o h)⟩
theorem Grow.new {G G1 : Gp} {p : Addr} {o : DO} (a : Grow G G1) (h : G1 p = none) : Grow G (gup G1 p o) := ⟨fun b u e => by rw [gup_ne (gne (a.kp b u e) h)]; exact a.kp b u e⟩
theorem Grow.own {G G1 : Gp} {p : Addr} {o : DO} (a : Grow G G1) (h : G p = none) : Grow G (gup G1 p o) := ⟨fun b u e => by rw [gup_ne (gne e h)]; exact a.kp b u e⟩
theorem Grow.none {G G1 : Gp} {p : Addr} (a : Grow G G1) (h : G1 p = none) : G p = none := by
  cases e : G p with
  | none => rfl
  | some o => rw [a.kp p o e] at h; cases h
end Rw

namespace L3
open PySem
end L3


namespace L3
open PySem PySem.Spec PyProof.Rows L2
theorem xr_all : (∀ i j G q, xEqB false (.int i) (.int j) G q = q (.bl (decide (i = j))) G) ∧ (∀ i j G q, xEqB true (.int i) (.int j) G q = q (.bl (!decide (i = j))) G) ∧
    (∀ i j G q, xEqB false (.str i) (.str j) G q = q (.bl (decide (i = j))) G) ∧ (∀ i j G q, xEqB true (.str i) (.str j) G q = q (.bl (!decide (i = j))) G) ∧
    (∀ a c G q, xEqB false (.ref a) (.ref c) G q = ∃ n sd se b, n ≤ 40 ∧ snap G n (.ref a) = some sd ∧ snap G n (.ref c) = some se ∧ eqN n sd se = some b ∧ q (.bl b) G) ∧
    (∀ a c G q, xEqB true (.ref a) (.ref c) G q = ∃ n sd se b, n ≤ 40 ∧ snap G n (.ref a) = some sd ∧ snap G n (.ref c) = some se ∧ eqN n sd se = some b ∧ q (.bl (!b)) G) ∧
    (∀ a c G q, xEqB false (.tup a) (.tup c) G q = ∃ n sd se b, n ≤ 40 ∧ snap G n (.tup a) = some sd ∧ snap G n (.tup c) = some se ∧ eqN n sd se = some b ∧ q (.bl b) G) ∧
    (∀ a c G q, xEqB true (.tup a) (.tup c) G q = ∃ n sd se b, n ≤ 40 ∧ snap G n (.tup a) = some sd ∧ snap G n (.tup c) = some se ∧ eqN n sd se = some b ∧ q (.bl (!b)) G) ∧
    (∀ i j G q, xAdd (.int i) (.int j) G q = q (.int (i + j)) G) ∧ (∀ i j G q, xMul (.int i) (.int j) G q = (CMul i j ∧ q (.int (i * j)) G)) ∧
    (∀ a k G q, xMul (.ref a) (.int k) G q = (match G a with | some (.lst xs) => (-(2 ^ 63) ≤ k ∧ k < 2 ^ 63 ∧ xs.length * k.toNat ≤ sizeLine) ∧ ∀ p, G p = none → q (.ref p) (gup G p (.lst (List.replicate k.toNat xs).flatten)) | _ => False)) ∧
    (∀ i j G q, xLt (.int i) (.int j) G q = q (.bl (decide (i < j))) G) ∧
    (∀ ds i G q, xIx (.tup ds) (.int i) G q = (match atI ds i with | some d => q d G | none => False)) ∧
    (∀ a i G q, xIx (.ref a) (.int i) G q = (match seqOf (G a) with | some ds => (match atI ds i with | some d => q d G | none => False) | none => False)) ∧
    (∀ xs G q, xLen [.tup xs] G q = q (.int xs.length) G) ∧ (∀ a G q, xLen [.ref a] G q = (match seqOf (G a) with | some xs => q (.int xs.length) G | none => False)) :=
  ⟨fun _ _ _ _ => rfl, fun _ _ _ _ => rfl, fun _ _ _ _ => rfl, fun _ _ _ _ => rfl, fun _ _ _ _ => rfl, fun _ _ _ _ => rfl, fun _ _ _ _ => rfl, fun _ _ _ _ => rfl, fun _ _ _ _ => rfl, fun _ _ _ _ => rfl, fun _ _ _ _ => rfl, fun _ _ _ _ => rfl, fun _ _ _ _ => rfl, fun _ _ _ _ => rfl, fun _ _ _ => rfl, fun _ _ _ => rfl⟩
theorem xs_all : (∀ f i j G q, xInt f (.int i) (.int j) G q = q (.int (f i j)) G) ∧ (∀ C f i j G q, xIntC C f (.int i) (.int j) G q = (C i j ∧ q (.int (f i j)) G)) ∧ (∀ i j G q, xLe (.int i) (.int j) G q = q (.bl (decide (i ≤ j))) G) ∧
    (∀ i j G q, xGt (.int i) (.int j) G q = q (.bl (decide (j < i))) G) ∧ (∀ i j G q, xGe (.int i) (.int j) G q = q (.bl (decide (j ≤ i))) G) ∧ (∀ i G q, xNeg (.int i) G q = q (.int (-i)) G) ∧
    (∀ a k v G q, xSet (.ref a) (.int k) v G q = (match G a with | some (.lst ds) => (match ixN ds.length k with | some j => q (gup G a (.lst (ds.set j v))) | none => False) | _ => False)) ∧
    (∀ a lo hi G q, xSlice (.ref a) lo hi G q = (match seqOf (G a) with | some ds => ∀ p, G p = none → q (.ref p) (gup G p (.lst (cutD ds lo hi))) | none => False)) ∧
    (∀ ds lo hi G q, xSlice (.tup ds) lo hi G q = (¬ (HT.sIx ds.length 0 lo = 0 ∧ HT.sIx ds.length ds.length hi = ds.length) ∧ q (.tup (cutD ds lo hi)) G)) ∧
    (∀ x G q, xIs2 x .non G q = (match x with | .non => q (.bl true) G | _ => q (.bl false) G)) ∧ (∀ x b G q, xIs2 x (.bl b) G q = (match x with | .bl c => q (.bl (decide (c = b))) G | _ => q (.bl false) G)) ∧
    (∀ x G q, xIsNot2 x .non G q = (match x with | .non => q (.bl false) G | _ => q (.bl true) G)) ∧ (∀ x b G q, xIsNot2 x (.bl b) G q = (match x with | .bl c => q (.bl (!decide (c = b))) G | _ => q (.bl true) G)) ∧
    (∀ i G q, xAbs [.int i] G q = q (.int (if i < 0 then -i else i)) G) ∧ (∀ i j G q, xDivmod [.int i, .int j] G q = (CDiv i j ∧ q (.tup [.int (i / j), .int (i % j)]) G)) ∧
    (∀ i j G q, xMax2 [.int i, .int j] G q = q (.int (if j > i then j else i)) G) ∧ (∀ i j G q, xMin2 [.int i, .int j] G q = q (.int (if j < i then j else i)) G) ∧
    (∀ i G q, xToInt [.int i] G q = q (.int i) G) ∧ (∀ b G q, xToInt [.bl b] G q = q (.int (if b then 1 else 0)) G) ∧
    (∀ xs G q, xToList [.tup xs] G q = ∀ p, G p = none → q (.ref p) (gup G p (.lst xs))) ∧ (∀ a G q, xToList [.ref a] G q = (match seqOf (G a) with | some xs => ∀ p, G p = none → q (.ref p) (gup G p (.lst xs)) | none => False)) ∧
    (∀ xs G q, xToTuple [.tup xs] G q = q (.tup xs) G) ∧ (∀ a G q, xToTuple [.ref a] G q = (match seqOf (G a) with | some xs => q (.tup xs) G | none => False)) ∧
    (∀ a G q, xAll [.ref a] G q = (match seqOf (G a) with | some xs => (match allBl xs with | some bs => q (.bl (bs.all id)) G | none => False) | none => False)) ∧
    (∀ x T G q, xIsinst [x, .ty T] G q = ((T = "int" ∨ T = "str" ∨ T = "bool" ∨ T = "list" ∨ T = "tuple" ∨ T = "dict") ∧ (match kindD G x with | some n => q (.bl (subK n T)) G | none => False))) ∧
    (∀ a d G q, mAppend (.ref a) [d] G q = (match G a with | some (.lst xs) => xs.length < sizeLine ∧ q .non (gup G a (.lst (xs ++ [d]))) | _ => False)) ∧
    (∀ a b G q, mExtend (.ref a) [.ref b] G q = (match G a, G b with | some (.lst xs), some (.lst ys) => xs.length + ys.length ≤ sizeLine ∧ q .non (gup G a (.lst (xs ++ ys))) | _, _ => False)) ∧
    (∀ a G q, mClear0 (.ref a) [] G q = (match G a with | some (.lst _) => q .non (gup G a (.lst [])) | _ => False)) := by
  refine ⟨?_, ?_, ?_, ?_, ?_, ?_, ?_, ?_, ?_, ?_, ?_, ?_, ?_, ?_, ?_, ?_, ?_, ?_, ?_, ?_, ?_, ?_, ?_, ?_, ?_, ?_, ?_, ?_⟩ <;> intros <;> rfl
end L3

namespace L2
open PySem PySem.Spec PyProof.Rows
section
variable {X : Cx} {e : Expr} {st : Expr} {te : TE} {ts : TO} {pos p2 : Pos}
end
end L2
namespace L3
open PySem PySem.Spec PyProof.Rows L2
section
variable {X : Cx} {e : Expr} {te : TE3} {pos p2 p3 p4 : Pos} {K : PySem.W.Frag} {σ : L2.St} {H : Hp} {Q : VK}
/-- xs[::-1] -/
noncomputable def dBack (te : TE3) : TE3 := fun σ G q => te σ G fun x G1 => match x with
  | .ref a => (match seqOf (G1 a) with | some ds => ∀ p, G1 p = none → q (.ref p) (gup G1 p (.lst ds.reverse)) | none => False)
  | _ => False
end
end L3

namespace L3
open PySem PySem.Spec PyProof.Rows L2
noncomputable def strsOf : List D → Option (List Str)
  | [] => some []
  | .str x :: r => (strsOf r).map (x :: ·)
  | _ => none
noncomputable def intsOf : List D → Option (List Int)
  | [] => some []
  | .int x :: r => (intsOf r).map (x :: ·)
  | _ => none
section
variable {X : Cx} {K : PySem.W.Frag} {H : Hp}
theorem strsOf_rel : ∀ {ds : List D} {ws : List Str} {vs : List V}, strsOf ds = some ws → RelDs K H ds vs → vs = ws.map V.str
  | [], ws, vs, e, r => by cases e; rw [r.inv_nil]; rfl
  | .str b :: ds, ws, vs, e, r => by
    obtain ⟨x, xs, rfl, h1, h2⟩ := r.inv_cons
    obtain ⟨ws', e', rfl⟩ := Option.map_eq_some_iff.mp (show (strsOf ds).map (b :: ·) = some ws from e)
    rw [h1.str_inv, strsOf_rel e' h2]; rfl
  | .non :: _, _, _, e, _ => by cases e
  | .bl _ :: _, _, _, e, _ => by cases e
  | .int _ :: _, _, _, e, _ => by cases e
  | .tup _ :: _, _, _, e, _ => by cases e
  | .ref _ :: _, _, _, e, _ => by cases e
  | .ty _ :: _, _, _, e, _ => by cases e
theorem intsOf_rel : ∀ {ds : List D} {ws : List Int} {vs : List V}, intsOf ds = some ws → RelDs K H ds vs → vs = ws.map V.int
  | [], ws, vs, e, r => by cases e; rw [r.inv_nil]; rfl
  | .int b :: ds, ws, vs, e, r => by
    obtain ⟨x, xs, rfl, h1, h2⟩ := r.inv_cons
    obtain ⟨ws', e', rfl⟩ := Option.map_eq_some_iff.mp (show (intsOf ds).map (b :: ·) = some ws from e)
    rw [h1.int_inv, intsOf_rel e' h2]; rfl
  | .non :: _, _, _, e, _ => by cases e
  | .bl _ :: _, _, _, e, _ => by cases e
  | .str _ :: _, _, _, e, _ => by cases e
  | .tup _ :: _, _, _, e, _ => by cases e
  | .ref _ :: _, _, _, e, _ => by cases e
  | .ty _ :: _, _, _, e, _ => by cases e
theorem in_strs {w : Str} {ws : List Str} : inV (V.str w) (ws.map V.str) = decide (w ∈ ws) := by
  unfold inV
  induction ws with
  | nil => rfl
  | cons x xs ih =>
    rw [List.map_cons, List.any_cons, ih]
    show ((x == w) || decide (w ∈ xs)) = _
    by_cases h : x = w
    · subst h; simp
    · have h' : ¬ w = x := fun e => h e.symm
      have : (x == w) = false := by simpa using h
      rw [this]; simp [h']
theorem in_ints {w : Int} {ws : List Int} : inV (V.int w) (ws.map V.int) = decide (w ∈ ws) := by
  unfold inV
  induction ws with
  | nil => rfl
  | cons x xs ih =>
    rw [List.map_cons, List.any_cons, ih]
    show ((x == w) || decide (w ∈ xs)) = _
    by_cases h : x = w
    · subst h; simp
    · have h' : ¬ w = x := fun e => h e.symm
      have : (x == w) = false := by simpa using h
      rw [this]; simp [h']
theorem flat_strs : ∀ ws : List Str, (ws.map V.str).all flatV = true
  | [] => rfl
  | _ :: ws => by rw [List.map_cons, List.all_cons, flat_strs ws]; rfl
theorem flat_ints : ∀ ws : List Int, (ws.map V.int).all flatV = true
  | [] => rfl
  | _ :: ws => by rw [List.map_cons, List.all_cons, flat_ints ws]; rfl
/-- in, not in: a text among texts, an int among ints -/
noncomputable def xInB (neg : Bool) : R3 := fun x y G q => match x, y with
  | .str w, .tup ds => (match strsOf ds with | some ws => q (.bl (if neg then !decide (w ∈ ws) else decide (w ∈ ws))) G | none => False)
  | .str w, .ref a => (match seqOf (G a) with | some ds => (match strsOf ds with | some ws => q (.bl (if neg then !decide (w ∈ ws) else decide (w ∈ ws))) G | none => False) | none => False)
  | .int w, .tup ds => (match intsOf ds with | some ws => q (.bl (if neg then !decide (w ∈ ws) else decide (w ∈ ws))) G | none => False)
  | .int w, .ref a => (match seqOf (G a) with | some ds => (match intsOf ds with | some ws => q (.bl (if neg then !decide (w ∈ ws) else decide (w ∈ ws))) G | none => False) | none => False)
  | _, _ => False
theorem low_in {neg : Bool} {x y : V} {Q : VK} (h : lowR K (xInB neg) x y H Q) : rIn K neg x y H Q := by
  obtain ⟨d, e, G, q, r1, r2, c, t, f⟩ := h
  unfold xInB at t
  split at t
  · rename_i w ds
    split at t
    · rename_i ws es
      obtain ⟨a, xs, rfl, s1, q1⟩ := r2.tup_inv
      cases r1.str_inv
      obtain rfl := strsOf_rel es q1
      exact ⟨a, _, rfl, .inr s1, rfl, flat_strs ws, f _ _ _ _ (by rw [in_strs]; exact RelD.blI) c (Le.refl H) t⟩
    · exact t.elim
  · rename_i w a
    split at t
    · rename_i ds eq
      split at t
      · rename_i ws es
        obtain ⟨xs, s1, q1⟩ := sql_of c eq
        cases r1.str_inv
        obtain rfl := strsOf_rel es q1
        exact ⟨a, _, r2.ref_inv, .inl s1, rfl, flat_strs ws, f _ _ _ _ (by rw [in_strs]; exact RelD.blI) c (Le.refl H) t⟩
      · exact t.elim
    · exact t.elim
  · rename_i w ds
    split at t
    · rename_i ws es
      obtain ⟨a, xs, rfl, s1, q1⟩ := r2.tup_inv
      cases r1.int_inv
      obtain rfl := intsOf_rel es q1
      exact ⟨a, _, rfl, .inr s1, rfl, flat_ints ws, f _ _ _ _ (by rw [in_ints]; exact RelD.blI) c (Le.refl H) t⟩
    · exact t.elim
  · rename_i w a
    split at t
    · rename_i ds eq
      split at t
      · rename_i ws es
        obtain ⟨xs, s1, q1⟩ := sql_of c eq
        cases r1.int_inv
        obtain rfl := intsOf_rel es q1
        exact ⟨a, _, r2.ref_inv, .inl s1, rfl, flat_ints ws, f _ _ _ _ (by rw [in_ints]; exact RelD.blI) c (Le.refl H) t⟩
      · exact t.elim
    · exact t.elim
  · exact t.elim
theorem x_in {k : Nat} {A : Around} (_ : Room k A) : Op3 X (compareOp .In) (xInB false) := weakOp op_in_seq fun _ _ _ _ h => low_in h
theorem x_notIn {k : Nat} {A : Around} (_ : Room k A) : Op3 X (compareOp .NotIn) (xInB true) := weakOp op_notIn_seq fun _ _ _ _ h => low_in h
end
end L3

namespace L2
open PySem PySem.Spec PyProof.Rows
end L2
namespace L3
open PySem PySem.Spec PyProof.Rows L2
end L3

namespace L2
open PySem PySem.Spec PyProof.Rows
end L2
namespace L3
open PySem PySem.Spec PyProof.Rows L2
end L3

namespace L2
open PySem PySem.Spec PyProof.Rows
section
variable {X : Cx}
end
end L2
namespace L3
open PySem PySem.Spec PyProof.Rows L2
section
variable {X : Cx}
end
end L3

namespace Law
open PySem L2 L3 Rw
set_option maxHeartbeats 4000000
/-- the draws' state stands at st -/
structure StAt (G : Gp) (st : Addr) : Prop where
  ex : ∃ (a : Addr) (ns : List Int) (k r : Int), G st = some (.lst [.ref a, .int k, .int r]) ∧ G a = some (.fro (ns.map .int)) ∧ 0 ≤ k ∧ 0 ≤ r ∧ a ≠ st ∧ ns.length ≤ 63
structure Adv (st : Addr) (G G' : Gp) : Prop where
  at_ : StAt G' st
  kp : ∀ b o, b ≠ st → G b = some o → G' b = some o
/-- only the list at a is changed, to bs -/
structure Upd1 (a : Addr) (bs : List Int) (G G' : Gp) : Prop where
  at_ : G' a = some (.lst (bs.map .int))
  kp : ∀ b, b ≠ a → G' b = G b
noncomputable def flds (ra ha : Addr) (s : Nat) : List (Str × D) := [("rows", .ref ra), ("held", .ref ha), ("spot", .int (s : Int))]
/-- a ride stands at p -/
structure RideAt (C : Addr) (G : Gp) (p ra ha : Addr) (rs : List Row) (bs : List Int) (s : Nat) : Prop where
  ob : G p = some (.ins C (flds ra ha s))
  ro : G ra = some (.lst (rs.map Row.d))
  he : G ha = some (.lst (bs.map .int))
  ne : ra ≠ ha
structure Cde (sz : Nat) (rs : List Row) (bs : List Int) (s : Nat) : Prop where
  bo : BsOk sz bs
  ro : ∀ r ∈ rs, r.ok sz
  le : s ≤ rs.length
theorem RideAt.pr {C : Addr} {G : Gp} {p ra ha : Addr} {rs : List Row} {bs : List Int} {s : Nat} (h : RideAt C G p ra ha rs bs s) : p ≠ ra := by
  intro e; have := h.ob; rw [e, h.ro] at this; cases this
theorem StAt.new {G : Gp} {st p : Addr} {o : DO} (h : StAt G st) (hp : G p = none) : StAt (gup G p o) st := by
  obtain ⟨a, ns, k, r, h1, h2, h3⟩ := h.ex
  exact ⟨a, ns, k, r, by rw [gup_ne (gne h1 hp)]; exact h1, by rw [gup_ne (gne h2 hp)]; exact h2, h3⟩
theorem StAt.ne {G : Gp} {st p : Addr} (h : StAt G st) (hp : G p = none) : p ≠ st := by
  obtain ⟨a, ns, k, r, h1, h2, h3⟩ := h.ex
  exact Ne.symm (gne h1 hp)
theorem StAt.set {G : Gp} {st p : Addr} {xs ys : List D} (h : StAt G st) (hp : G p = some (.lst xs)) (hne : p ≠ st) : StAt (gup G p (.lst ys)) st := by
  obtain ⟨a, ns, k, r, h1, h2, h3⟩ := h.ex
  have : a ≠ p := by intro e; rw [e, hp] at h2; cases h2
  exact ⟨a, ns, k, r, by rw [gup_ne (Ne.symm hne)]; exact h1, by rw [gup_ne this]; exact h2, h3⟩
theorem Adv.refl {G : Gp} {st : Addr} (h : StAt G st) : Adv st G G := ⟨h, fun _ _ _ e => e⟩
theorem Adv.trans {st : Addr} {G G1 G2 : Gp} (a : Adv st G G1) (b : Adv st G1 G2) : Adv st G G2 := ⟨b.at_, fun c o hc e => b.kp c o hc (a.kp c o hc e)⟩
theorem Adv.new {st p : Addr} {G G1 : Gp} {o : DO} (a : Adv st G G1) (hp : G1 p = none) : Adv st G (gup G1 p o) := ⟨a.at_.new hp, fun c u hc e => by rw [gup_ne (gne (a.kp c u hc e) hp)]; exact a.kp c u hc e⟩
/-- a list that was not there ahead is changed -/
theorem Adv.own {st p : Addr} {G G1 : Gp} {xs ys : List D} (a : Adv st G G1) (hp : G p = none) (h1 : G1 p = some (.lst xs)) (hne : p ≠ st) : Adv st G (gup G1 p (.lst ys)) :=
  ⟨a.at_.set h1 hne, fun c u hc e => by rw [gup_ne (gne e hp)]; exact a.kp c u hc e⟩
theorem Adv.none {st p : Addr} {G G1 : Gp} (a : Adv st G G1) (hp : G1 p = none) (hne : p ≠ st) : G p = none := by
  cases e : G p with
  | none => rfl
  | some o => rw [a.kp p o hne e] at hp; cases hp
theorem RideAt.grow {C : Addr} {G G' : Gp} {p ra ha : Addr} {rs : List Row} {bs : List Int} {s : Nat} (h : RideAt C G p ra ha rs bs s) (g : Grow G G') : RideAt C G' p ra ha rs bs s :=
  ⟨g.kp _ _ h.ob, g.kp _ _ h.ro, g.kp _ _ h.he, h.ne⟩
/-- what stands stays, but the ride and its boxes -/
structure Kept (p ha : Addr) (G G' : Gp) : Prop where
  kp : ∀ b o, b ≠ p → b ≠ ha → G b = some o → G' b = some o
theorem Kept.refl {p ha : Addr} {G : Gp} : Kept p ha G G := ⟨fun _ _ _ _ h => h⟩
theorem Kept.trans {p ha : Addr} {G G1 G2 : Gp} (a : Kept p ha G G1) (b : Kept p ha G1 G2) : Kept p ha G G2 := ⟨fun c o h1 h2 h => b.kp c o h1 h2 (a.kp c o h1 h2 h)⟩
theorem Kept.grow {p ha : Addr} {G G1 G2 : Gp} (a : Kept p ha G G1) (b : Grow G1 G2) : Kept p ha G G2 := ⟨fun c o h1 h2 h => b.kp c o (a.kp c o h1 h2 h)⟩
theorem Kept.none {p ha q : Addr} {G G1 : Gp} (a : Kept p ha G G1) (h1 : q ≠ p) (h2 : q ≠ ha) (h : G1 q = none) : G q = none := by
  cases e : G q with
  | none => rfl
  | some o => rw [a.kp q o h1 h2 e] at h; cases h
structure AllIn (C : Addr) (G : Gp) (p ra ha rr a : Addr) (rs : List Row) (bs : List Int) (s sz : Nat) : Prop where
  A : RideAt C G p ra ha rs bs s
  c : Cde sz rs bs s
  pl : ∀ r ∈ rs, r.plain = true
  le : sz ≤ 1000
  r : G rr = some (.lst (rs.map Row.d))
  b : G a = some (.lst (bs.map .int))
  rh : rr ≠ ha
  ah : a ≠ ha
structure AllOut (C : Addr) (G G' : Gp) (p ra ha a q : Addr) (rs : List Row) (bs : List Int) (s : Nat) : Prop where
  A : RideAt C G' p ra ha rs bs s
  b : G' q = some (.lst (bs.map .int))
  k : Kept p ha G G'
  q : q = a ∨ G q = none
end Law
namespace Rw
open PySem L2 L3
theorem mapM_all {α β : Type} {f : α → Option β} : ∀ {xs : List α}, (∀ x ∈ xs, ∃ y, f x = some y) → ∃ ys, xs.mapM f = some ys
  | [], _ => ⟨[], rfl⟩
  | x :: xs, h => by
    obtain ⟨y, hy⟩ := h x List.mem_cons_self
    obtain ⟨ys, hys⟩ := mapM_all (xs := xs) fun z hz => h z (List.mem_cons_of_mem _ hz)
    exact ⟨y :: ys, by rw [List.mapM_cons, hy, hys]; rfl⟩
theorem snap_tup {G : Gp} {n : Nat} {ds : List D} (h : ∀ d ∈ ds, ∃ s, snap G n d = some s) : ∃ s, snap G (n + 1) (.tup ds) = some s := by
  obtain ⟨ys, e⟩ := mapM_all h
  exact ⟨.tup ys, by show (ds.mapM (snap G n)).map Sn.tup = _; rw [e]; rfl⟩
theorem snap_int {G : Gp} {n : Nat} {i : Int} : ∃ s, snap G n (.int i) = some s := by cases n <;> exact ⟨_, rfl⟩
theorem snap_str {G : Gp} {n : Nat} {i : Str} : ∃ s, snap G n (.str i) = some s := by cases n <;> exact ⟨_, rfl⟩
theorem all1 {p : D → Prop} {a : D} (h : p a) : ∀ d ∈ [a], p d := fun d hd => by cases List.mem_singleton.mp hd; exact h
theorem all2 {p : D → Prop} {a : D} {r : List D} (h : p a) (hr : ∀ d ∈ r, p d) : ∀ d ∈ a :: r, p d := fun d hd => by
  rcases List.mem_cons.mp hd with rfl | q
  · exact h
  · exact hr d q
theorem snap_opd {G : Gp} {n : Nat} (o : Opd) : ∃ s, snap G (n + 1) o.d = some s := by
  cases o with
  | num m => exact snap_tup (all2 snap_str (all1 snap_int))
  | box y => exact snap_tup (all2 snap_str (all1 snap_int))
theorem snap_row {G : Gp} {n : Nat} (r : Row) : ∃ s, snap G (n + 3) r.d = some s := by
  cases r with
  | add x o => exact snap_tup (all2 snap_str (all2 snap_int (all1 (snap_opd o))))
  | take x o => exact snap_tup (all2 snap_str (all2 snap_int (all1 (snap_opd o))))
  | turn x i cs =>
    refine snap_tup (all2 snap_str (all2 snap_int (all2 snap_int (all1 (snap_tup fun d hd => ?_)))))
    obtain ⟨c, _, rfl⟩ := List.mem_map.mp hd
    exact snap_tup (all2 snap_int (all1 snap_int))
  | swap x y => exact snap_tup (all2 snap_str (all2 snap_int (all1 snap_int)))
  | go x m k => exact snap_tup (all2 snap_str (all2 snap_int (all2 snap_int (all1 snap_int))))
  | come x m k => exact snap_tup (all2 snap_str (all2 snap_int (all2 snap_int (all1 snap_int))))
theorem snap_rows {G : Gp} {n : Nat} {a : Addr} {rs : List Row} (h : seqOf (G a) = some (rs.map Row.d)) : ∃ s, snap G (n + 4) (.ref a) = some s := by
  obtain ⟨ys, e⟩ := mapM_all (f := snap G (n + 3)) (xs := rs.map Row.d) fun d hd => by
    obtain ⟨r, _, rfl⟩ := List.mem_map.mp hd
    exact snap_row r
  exact ⟨.lst ys, by show ((seqOf (G a)).bind fun ds => (ds.mapM (snap G (n + 3))).map Sn.lst) = _; rw [h, Option.bind_some, e]; rfl⟩
theorem snap_ref {G : Gp} {n : Nat} {a b : Addr} (h : seqOf (G a) = seqOf (G b)) : snap G n (.ref a) = snap G n (.ref b) := by
  cases n with
  | zero => rfl
  | succ n => show ((seqOf (G a)).bind _) = ((seqOf (G b)).bind _); rw [h]
end Rw

namespace Law
open PySem L2 L3 Rw
set_option maxHeartbeats 4000000
/-- each go has its come, each come its go -/
structure Pairs (rs : List Row) : Prop where
  go : ∀ (j x : Nat) (n : Int) (k : Nat), rs[j]? = some (Row.go x n k) → rs[k]? = some (.come x n j)
  co : ∀ (j x : Nat) (n : Int) (k : Nat), rs[j]? = some (Row.come x n k) → rs[k]? = some (.go x n j)
theorem lt_of {α : Type} {xs : List α} {i : Nat} {x : α} (h : xs[i]? = some x) : i < xs.length := (List.getElem?_eq_some_iff.mp h).1
/-! rows that are still to be laid -/
noncomputable def od : Option Row → D
  | none => .non
  | some r => r.d
structure PairsO (os : List (Option Row)) : Prop where
  go : ∀ (j x : Nat) (n : Int) (k : Nat), os[j]? = some (some (Row.go x n k)) → os[k]? = some (some (.come x n j))
  co : ∀ (j x : Nat) (n : Int) (k : Nat), os[j]? = some (some (Row.come x n k)) → os[k]? = some (some (.go x n j))
theorem PairsO.plain {os : List (Option Row)} {i : Nat} {r : Row} (h : PairsO os) (hi : os[i]? = some none) (hr : r.plain = true) : PairsO (os.set i (some r)) := by
  have hl := lt_of hi
  refine ⟨fun j x n k e => ?_, fun j x n k e => ?_⟩
  · rw [List.getElem?_set] at e ⊢
    by_cases hj : i = j
    · subst hj; rw [if_pos rfl, if_pos hl] at e; cases e; cases hr
    · rw [if_neg hj] at e
      have q := h.go j x n k e
      by_cases hk : i = k
      · subst hk; rw [hi] at q; cases q
      · rw [if_neg hk]; exact q
  · rw [List.getElem?_set] at e ⊢
    by_cases hj : i = j
    · subst hj; rw [if_pos rfl, if_pos hl] at e; cases e; cases hr
    · rw [if_neg hj] at e
      have q := h.co j x n k e
      by_cases hk : i = k
      · subst hk; rw [hi] at q; cases q
      · rw [if_neg hk]; exact q
theorem PairsO.empty {m : Nat} : PairsO (List.replicate m none) := by
  refine ⟨fun j x n k e => ?_, fun j x n k e => ?_⟩ <;> (rw [List.getElem?_replicate] at e; split at e <;> cases e)
theorem PairsO.pairs {rs : List Row} (h : PairsO (rs.map some)) : Pairs rs := by
  have e : ∀ {j : Nat} {r : Row}, rs[j]? = some r ↔ (rs.map some)[j]? = some (some r) := fun {j r} => by
    rw [List.getElem?_map]
    cases rs[j]? <;> simp
  exact ⟨fun j x n k q => e.mpr (h.go j x n k (e.mp q)), fun j x n k q => e.mpr (h.co j x n k (e.mp q))⟩
end Law

namespace Law
open PySem L2 L3 Rw
/-- a place and its boxes, laid at an address -/
structure Ent where
  s : Nat
  q : Addr
  bs : List Int
noncomputable def Ent.d (e : Ent) : D := .tup [.int (e.s : Int), .ref e.q]
theorem StAt.grow {G G' : Gp} {st : Addr} (h : StAt G st) (g : Grow G G') : StAt G' st := by
  obtain ⟨a, ns, k, r, h1, h2, h3⟩ := h.ex
  exact ⟨a, ns, k, r, g.kp _ _ h1, g.kp _ _ h2, h3⟩
end Law

namespace Law
open PySem L2 L3 Rw
end Law
namespace Law
open PySem L2 L3 Rw
end Law

namespace L3
open PySem PySem.Spec PyProof.Rows L2
theorem allBl_rep : ∀ m : Nat, allBl (List.replicate m (.bl true)) = some (List.replicate m true)
  | 0 => rfl
  | m + 1 => by rw [List.replicate_succ, allBl, allBl_rep m]; rfl
theorem all_rep (m : Nat) : (List.replicate m true).all id = true := by simp
end L3
namespace Rw
open PySem L2 L3
noncomputable def Row.x : Row → Nat
  | .add x _ => x
  | .take x _ => x
  | .turn x _ _ => x
  | .swap x _ => x
  | .go x _ _ => x
  | .come x _ _ => x
end Rw
namespace Law
open PySem L2 L3 Rw
/-- where a ride came from, and how -/
structure Ent2 where
  fw : Bool
  s : Nat
  q : Addr
  bs : List Int
noncomputable def Ent2.d (e : Ent2) : D := .tup [.bl e.fw, .int (e.s : Int), .ref e.q]
end Law


namespace L2
open PySem PySem.Spec PyProof.Rows
section
variable {X : Cx}
end
end L2
namespace L3
open PySem PySem.Spec PyProof.Rows L2
section
variable {X : Cx}
theorem allInt_map : ∀ ks : List Int, allInt (ks.map D.int) = some ks
  | [] => rfl
  | k :: ks => by show (allInt (ks.map D.int)).map (k :: ·) = _; rw [allInt_map ks]; rfl
end
end L3




namespace L2
open PySem PySem.Spec PyProof.Rows
end L2
namespace L3
open PySem PySem.Spec PyProof.Rows L2
end L3

namespace L2
open PySem PySem.Spec PyProof.Rows
end L2
namespace L3
open PySem PySem.Spec PyProof.Rows L2
end L3

namespace L3
open PySem PySem.Spec PyProof.Rows L2 Rw
/-- the source: the cells still to draw from, a rest, a number -/
noncomputable def Src (G : Gp) (s a : Addr) : Prop := ∃ (ns : List Int) (x y : Int), G s = some (.lst [.ref a, .int x, .int y]) ∧ G a = some (.lst (ns.map .int)) ∧ 0 ≤ x ∧ s ≠ a
structure Ady (s a : Addr) (G G' : Gp) : Prop where
  at_ : Src G' s a
  kp : ∀ c o, c ≠ s → c ≠ a → G c = some o → G' c = some o
theorem Src.ne {G : Gp} {s a p : Addr} (h : Src G s a) (hp : G p = none) : p ≠ s ∧ p ≠ a := by
  obtain ⟨ns, x, y, h1, h2, _⟩ := h
  exact ⟨fun e => (by rw [e, h1] at hp; cases hp), fun e => (by rw [e, h2] at hp; cases hp)⟩
theorem Src.put {G : Gp} {s a p : Addr} {o : DO} (h : Src G s a) (hs : p ≠ s) (ha : p ≠ a) : Src (gup G p o) s a := by
  obtain ⟨ns, x, y, h1, h2, h3, h4⟩ := h
  exact ⟨ns, x, y, by rw [gup_ne (Ne.symm hs)]; exact h1, by rw [gup_ne (Ne.symm ha)]; exact h2, h3, h4⟩
theorem Src.grow {G G' : Gp} {s a : Addr} (h : Src G s a) (g : Grow G G') : Src G' s a := by
  obtain ⟨ns, x, y, h1, h2, h3⟩ := h
  exact ⟨ns, x, y, g.kp _ _ h1, g.kp _ _ h2, h3⟩
theorem Ady.trans {s a : Addr} {G G1 G2 : Gp} (h : Ady s a G G1) (k : Ady s a G1 G2) : Ady s a G G2 := ⟨k.at_, fun c o h1 h2 e => k.kp c o h1 h2 (h.kp c o h1 h2 e)⟩
theorem Ady.refl {s a : Addr} {G : Gp} (h : Src G s a) : Ady s a G G := ⟨h, fun _ _ _ _ e => e⟩
theorem Ady.new {s a p : Addr} {G G1 : Gp} {o : DO} (h : Ady s a G G1) (hp : G1 p = none) : Ady s a G (gup G1 p o) :=
  ⟨h.at_.put (h.at_.ne hp).1 (h.at_.ne hp).2, fun c u h1 h2 e => by rw [gup_ne (gne (h.kp c u h1 h2 e) hp)]; exact h.kp c u h1 h2 e⟩
theorem at2 {x y : Int} {t : Int} (h0 : 0 ≤ t) (h1 : t < 2) : atI [.int x, .int y] t = some (D.int (if t = 0 then x else y)) := by
  have : t = 0 ∨ t = 1 := by omega
  rcases this with e | e <;> subst e <;> rfl
end L3

namespace L2
open PySem PySem.Spec PyProof.Rows
noncomputable abbrev IsZipO (h : Heap) (z TI TO T : Addr) (f : Bool) : Prop := h.get? z = some { cls := .type "zip", data := .fields #[rawInt (T : Int), .bool f, .bool false, .ref TI, .ref TO] }
theorem far {z t : Addr} {n : Nat} (a : z < n) (b : n ≤ t) : t ≠ z := Nat.ne_of_gt (Nat.lt_of_lt_of_le a b)
/-- zip of two lists, i items drawn, the tuple of the last one kept -/
structure LzSt (l1 l2 z TI TO i1 i2 S : Addr) (xs ys : Array Value) (i : Nat) (h : Heap) : Prop where
  zz : IsZip h z TI TO .none ∨ ∃ T f oT, IsZipO h z TI TO T f ∧ h.get? T = some oT ∧ T ≠ z ∧ T ≠ TO ∧ T ≠ i1 ∧ T ≠ i2 ∧ T ≠ S
  ti : IsPair h TI (.ref i1) (.ref i2)
  to : ∃ u v, IsPair h TO u v
  h1 : h.IsListIter i1 l1 i
  h2 : h.IsListIter i2 l2 i
  m1 : h.IsList l1 xs
  m2 : h.IsList l2 ys
/-- the tuples laid so far -/
structure LzTs (n0 : Nat) (xs ys : Array Value) (h : Heap) (ts : List Addr) : Prop where
  nd : ts.Nodup
  at_ : ∀ (j : Nat) (t : Addr), ts[j]? = some t → n0 ≤ t ∧ ∃ x y, xs[j]? = some x ∧ ys[j]? = some y ∧ IsPair h t x y
end L2

namespace L3
open PySem PySem.Spec PyProof.Rows L2
end L3

namespace L3
open PySem PySem.Spec PyProof.Rows L2
section
variable {X : Cx} {o : Expr} {to : TE3} {apos cpos : Pos}
noncomputable def xInv : U3 := fun x G q => match x with | .int i => q (.int (Builtin.bitNot i)) G | _ => False
noncomputable def mReverse0 : M3 := fun x ds G q => match x, ds with
  | .ref a, [] => (match G a with | some (.lst xs) => q .non (gup G a (.lst xs.reverse)) | _ => False)
  | _, _ => False
noncomputable def rBits : V → List V → Hp → VK → Prop := fun x vs H Q => ∃ i : Int, x = .int i ∧ vs = [] ∧ Q (.int (Builtin.Int.intBits i : Int)) H
theorem mt_bits : MtR X "int.bit_length" rBits := by
  intro pins s σ H x vs v us Q I rx rv h
  obtain ⟨i, rfl, rfl, q⟩ := h
  obtain ⟨t, rfl⟩ := rx
  have hus := rv.zero
  subst hus
  exact call_int_bit_length ⟨.int _, H, I.tok _, ⟨_, rfl⟩, q⟩
noncomputable def mBits0 : M3 := fun x ds G q => match x, ds with
  | .int i, [] => q (.int (Builtin.Int.intBits i : Int)) G
  | _, _ => False
theorem ty_int (K : PySem.W.Frag) : ∀ G H x v, Con K G H → RelD K H x v → tyD G "int" x → tyV K "int" v H := by
  intro G H x v c r t
  cases x with
  | int i => cases r.int_inv; exact rfl
  | str _ => simp [tyD] at t
  | ref a => cases e : G a with
    | none => simp [tyD, e] at t
    | some o => cases o <;> simp [tyD, e] at t
  | _ => exact t.elim
theorem e_bit_length0 (ho : E3 X o to) (hbase : attributeBase o "bit_length" X.env (eval o X.env) = eval o X.env := by rfl) (hline : (apos.endLine == cpos.line) = true := by rfl) : E3 X (.Call (.Attribute o "bit_length" apos) [] [] cpos) (dBM0 "int" mBits0 to) :=
  weakE (pe_bm0 PySem.F.plainAttrs_int PySem.F.slot_int_bit_length PySem.F.type_int_bit_length (weakMt (r' := lowM X.K mBits0) mt_bits <| by
    rintro x xs H Q ⟨d, ds, G, q, r1, r2, c, t, f⟩
    unfold mBits0 at t
    split at t
    · cases r1.int_inv
      cases r2.inv_nil
      exact ⟨_, rfl, rfl, f _ _ _ _ RelD.intI c (Le.refl H) t⟩
    · exact t.elim) ho hbase hline) fun _ _ _ => low_bm0 (ty_int X.K)
end
end L3

namespace L3
open PySem PySem.Spec PyProof.Rows L2 Rw
noncomputable abbrev Mv := Bool × Nat
noncomputable def nD (x : Nat) : D := .int (x : Int)
noncomputable def stb (k m : Nat) : Bool := m.testBit (k - 1)
noncomputable def xr (m k : Nat) : Nat := m ^^^ 2 ^ (k - 1)
noncomputable def hi (m : Nat) : Nat := if m = 0 then 0 else m.log2 + 1
theorem hi_bits (m : Nat) : Builtin.Int.intBits (m : Int) = hi m := by
  unfold Builtin.Int.intBits hi
  by_cases h : m = 0
  · subst h; rfl
  · have : ((m : Int) == 0) = false := by rw [beq_eq_false_iff_ne]; omega
    rw [this, if_neg h, if_neg (by decide), Int.natAbs_natCast]
theorem lt_hi (m : Nat) : m < 2 ^ hi m := by
  unfold hi
  by_cases h : m = 0
  · subst h; simp
  · rw [if_neg h]; exact Nat.lt_log2_self
/-- the moves are on marks that stand or not, as they should -/
noncomputable def okw : Nat → List Mv → Prop
  | _, [] => True
  | m, p :: r => (1 ≤ p.2 ∧ p.2 ≤ 900) ∧ p.1 = !stb p.2 m ∧ okw (xr m p.2) r
noncomputable def fin : Nat → List Mv → Nat
  | m, [] => m
  | m, p :: r => fin (xr m p.2) r
noncomputable def low : Nat → List Mv → Nat
  | m, [] => hi m
  | m, p :: r => min (low (xr m p.2) r) (hi m)
noncomputable def thw : Nat → List Mv → List Mv
  | _, [] => []
  | m, p :: r => if p.2 ≤ low (xr m p.2) r then p :: thw (xr m p.2) r else thw (xr m p.2) r
noncomputable def once (w : List Mv) : List Mv := thw 0 w
/-- the sets behind each move -/
noncomputable def sbh : Nat → List Mv → List Nat
  | _, [] => []
  | m, p :: r => xr m p.2 :: sbh (xr m p.2) r
theorem thw_sub : ∀ {w : List Mv} {m : Nat}, (thw m w).Sublist w
  | [], _ => .slnil
  | p :: r, m => by
    rw [thw]
    split
    · exact thw_sub.cons₂ _
    · exact thw_sub.cons _
theorem mod_min {m l : Nat} : m % 2 ^ (min l (hi m)) = m % 2 ^ l := by
  rcases Nat.le_total l (hi m) with h | h
  · rw [Nat.min_eq_left h]
  · rw [Nat.min_eq_right h, Nat.mod_eq_of_lt (lt_hi m), Nat.mod_eq_of_lt (Nat.lt_of_lt_of_le (lt_hi m) (Nat.pow_le_pow_right (by decide) h))]
theorem xr_mod {m k l : Nat} (h1 : 1 ≤ k) (h : k ≤ l) : xr (m % 2 ^ l) k = xr m k % 2 ^ l := Nat.eq_of_testBit_eq fun j => by
  unfold xr
  rw [Nat.testBit_xor, Nat.testBit_mod_two_pow, Nat.testBit_mod_two_pow, Nat.testBit_xor, Nat.testBit_two_pow]
  by_cases e : k - 1 = j
  · have : j < l := by omega
    simp [e, this]
  · simp [e]
theorem xr_mod2 {m k l : Nat} (h : l < k) : m % 2 ^ l = xr m k % 2 ^ l := Nat.eq_of_testBit_eq fun j => by
  unfold xr
  rw [Nat.testBit_mod_two_pow, Nat.testBit_mod_two_pow, Nat.testBit_xor, Nat.testBit_two_pow]
  by_cases e : k - 1 = j
  · have : ¬ j < l := by omega
    simp [this]
  · simp [e]
theorem stb_mod {m k l : Nat} (h1 : 1 ≤ k) (h : k ≤ l) : stb k (m % 2 ^ l) = stb k m := by
  unfold stb
  rw [Nat.testBit_mod_two_pow]
  have : k - 1 < l := by omega
  simp [this]
theorem okw_thw : ∀ {w : List Mv} {m : Nat}, okw m w → okw (m % 2 ^ low m w) (thw m w)
  | [], _, _ => trivial
  | p :: r, m, ⟨h1, h2, h3⟩ => by
    have ih := okw_thw h3
    show okw (m % 2 ^ min (low (xr m p.2) r) (hi m)) (if p.2 ≤ low (xr m p.2) r then p :: thw (xr m p.2) r else thw (xr m p.2) r)
    rw [mod_min]
    split
    · rename_i hk
      refine ⟨h1, by rw [stb_mod h1.1 hk]; exact h2, ?_⟩
      rw [xr_mod h1.1 hk]
      exact ih
    · rename_i hk
      rw [xr_mod2 (by omega : low (xr m p.2) r < p.2)]
      exact ih
theorem okw_once {w : List Mv} (h : okw 0 w) : okw 0 (once w) := by
  have := okw_thw h
  rw [Nat.zero_mod] at this
  exact this
theorem once_len (w : List Mv) : (once w).length ≤ w.length := thw_sub.length_le
noncomputable def itn : Nat → List Mv → List Mv
  | 0, w => w
  | n + 1, w => once (itn n w)
theorem okw_itn {w : List Mv} (h : okw 0 w) : ∀ n, okw 0 (itn n w)
  | 0 => h
  | n + 1 => okw_once (okw_itn h n)
theorem itn_len {w : List Mv} : ∀ n, (itn n w).length ≤ w.length
  | 0 => Nat.le_refl _
  | n + 1 => Nat.le_trans (once_len _) (itn_len n)
/-- what a way thinned is -/
noncomputable def Fx (w x : List Mv) : Prop := (∃ n, x = itn n w) ∧ once x = x
theorem Fx.self {w x : List Mv} (h : Fx w x) : Fx x x := ⟨⟨0, rfl⟩, h.2⟩
theorem Fx.ok {w x : List Mv} (h : Fx w x) (hw : okw 0 w) : okw 0 x := by obtain ⟨⟨a, rfl⟩, _⟩ := h; exact okw_itn hw a
theorem Fx.len {w x : List Mv} (h : Fx w x) : x.length ≤ w.length := by obtain ⟨⟨a, rfl⟩, _⟩ := h; exact itn_len a
theorem at_lastD {α : Type} (ns : List α) (c : α) : atI (ns ++ [c]) (-1) = some c := by
  unfold atI ixN
  rw [if_neg (by decide), if_pos (by simp; omega)]
  have e : (-1 + ((ns ++ [c]).length : Int)).toNat = ns.length := by simp; omega
  rw [Option.bind_some, e]
  simp
theorem at_getD {α : Type} {xs : List α} {v : Int} (h0 : 0 ≤ v) (h1 : v < (xs.length : Int)) : ∃ x, x ∈ xs ∧ atI xs v = some x := by
  have h2 : v.toNat < xs.length := by omega
  refine ⟨xs[v.toNat], List.getElem_mem _, ?_⟩
  unfold atI ixN
  rw [if_pos h0, if_pos h1, Option.bind_some, List.getElem?_eq_getElem h2]
noncomputable def hD (x : Nat) : D := nD (hi x)
theorem allBl_map : ∀ bs : List Bool, allBl (bs.map D.bl) = some bs
  | [] => rfl
  | b :: bs => by rw [List.map_cons, allBl, allBl_map bs]; rfl
end L3

namespace L2
open PySem PySem.Spec PyProof.Rows
section
variable {X : Cx}
end
end L2
namespace L3
open PySem PySem.Spec PyProof.Rows L2
section
variable {X : Cx} {K : PySem.W.Frag} {H : Hp}
end
end L3

namespace L2
open PySem PySem.Spec PyProof.Rows
structure BlkOkC (X : Cx) (N' : List Str) (ix : List (Option Nat)) (scope : Scope) : Prop where
  kind : scope.kind = .function
  own : ∀ y ∈ scope.names, scope.names.lookup y.1 = some y.2
  frees : ∀ y ∈ scope.names, y.2 = .free → X.env.kindOf y.1 = some .cell ∨ X.env.kindOf y.1 = some .free
  len : ix.length = N'.length
  at_ : ∀ (i j : Nat) (x : Str), N'[i]? = some x → ix[i]? = some (some j) → X.N[j]? = some x ∧ scope.names.lookup x = some .free
section
variable {X : Cx} {pins : List (Addr × Obj)} {σ : L2.St} {H : Hp} {s : Shared}


variable {elt tg iter : Expr} {ifs : List Expr} {scope : Scope} {pos : Pos} {N' : List Str} {ix : List (Option Nat)} {wi : TI} {g : TG} {tc : TT} {te : TE}
end
end L2
namespace L3
open PySem PySem.Spec PyProof.Rows L2
end L3

namespace L3
open PySem PySem.Spec PyProof.Rows L2 Rw
/-- how many of the lowest marks stand -/
noncomputable def cnt : Nat → Nat → Nat
  | 0, _ => 0
  | n + 1, m => cnt n m + (if m.testBit n then 1 else 0)
theorem cnt_mono : ∀ {n m m' : Nat}, (∀ i, m.testBit i = true → m'.testBit i = true) → cnt n m ≤ cnt n m'
  | 0, _, _, _ => Nat.le_refl _
  | n + 1, m, m', h => by
    have ih := cnt_mono (n := n) h
    rw [cnt, cnt]
    cases e : m.testBit n with
    | true => rw [h n e]; simp; omega
    | false => simp; omega
theorem cnt_mod {n m l : Nat} : cnt n (m % 2 ^ l) ≤ cnt n m := cnt_mono fun i h => by
  rw [Nat.testBit_mod_two_pow] at h
  simp at h
  exact h.2
theorem xr_bit {m k j : Nat} : (xr m k).testBit j = (m.testBit j ^^ decide (k - 1 = j)) := by
  unfold xr
  rw [Nat.testBit_xor, Nat.testBit_two_pow]
/-- a move that keeps the rules -/
noncomputable def lgl (n s m : Nat) (p : Mv) : Prop := (1 ≤ p.2 ∧ p.2 ≤ n) ∧ (p.2 = 1 ∨ m.testBit (p.2 - 2) = true) ∧ p.1 = (!stb p.2 m) ∧ (p.1 = true → cnt n m < s)
noncomputable def lgw (n s : Nat) : Nat → List Mv → Prop
  | _, [] => True
  | m, p :: r => lgl n s m p ∧ lgw n s (xr m p.2) r
theorem lgw_ok {n s : Nat} (hn : n ≤ 900) : ∀ {w : List Mv} {m : Nat}, lgw n s m w → okw m w
  | [], _, _ => trivial
  | p :: r, m, ⟨⟨h1, h2, h3, h4⟩, h5⟩ => ⟨⟨h1.1, by omega⟩, h3, lgw_ok hn h5⟩
theorem lgw_thw {n s : Nat} : ∀ {w : List Mv} {m : Nat}, lgw n s m w → lgw n s (m % 2 ^ low m w) (thw m w)
  | [], _, _ => trivial
  | p :: r, m, ⟨⟨h1, h2, h3, h4⟩, h5⟩ => by
    have ih := lgw_thw h5
    show lgw n s (m % 2 ^ min (low (xr m p.2) r) (hi m)) (if p.2 ≤ low (xr m p.2) r then p :: thw (xr m p.2) r else thw (xr m p.2) r)
    rw [mod_min]
    split
    · rename_i hk
      refine ⟨⟨h1, ?_, by rw [stb_mod h1.1 hk]; exact h3, fun e => Nat.lt_of_le_of_lt cnt_mod (h4 e)⟩, ?_⟩
      · rcases h2 with h2 | h2
        · exact .inl h2
        · right
          rw [Nat.testBit_mod_two_pow, h2]
          simp
          omega
      · rw [xr_mod h1.1 hk]
        exact ih
    · rename_i hk
      rw [xr_mod2 (by omega : low (xr m p.2) r < p.2)]
      exact ih
theorem fin_thw : ∀ {w : List Mv} {m : Nat}, okw m w → fin (m % 2 ^ low m w) (thw m w) = fin m w
  | [], m, _ => by
    show m % 2 ^ hi m = m
    exact Nat.mod_eq_of_lt (lt_hi m)
  | p :: r, m, ⟨h1, _, h5⟩ => by
    have ih := fin_thw h5
    show fin (m % 2 ^ min (low (xr m p.2) r) (hi m)) (if p.2 ≤ low (xr m p.2) r then p :: thw (xr m p.2) r else thw (xr m p.2) r) = fin (xr m p.2) r
    rw [mod_min]
    split
    · rename_i hk
      show fin (xr (m % 2 ^ low (xr m p.2) r) p.2) (thw (xr m p.2) r) = _
      rw [xr_mod h1.1 hk]
      exact ih
    · rename_i hk
      rw [xr_mod2 (by omega : low (xr m p.2) r < p.2)]
      exact ih
/-- each set is a set of the other way without some highest marks -/
theorem sets_thw : ∀ {w : List Mv} {m : Nat}, okw m w → ∀ x, x ∈ (m % 2 ^ low m w) :: sbh (m % 2 ^ low m w) (thw m w) → ∃ y l, y ∈ m :: sbh m w ∧ x = y % 2 ^ l
  | [], m, _, x, hx => by
    have : x = m % 2 ^ low m [] := by simpa [thw, sbh] using hx
    exact ⟨m, _, by simp, this⟩
  | p :: r, m, ⟨h1, _, h5⟩, x, hx => by
    have ih := sets_thw h5
    have e : low m (p :: r) = min (low (xr m p.2) r) (hi m) := rfl
    rw [e, mod_min] at hx
    rw [thw] at hx
    split at hx
    · rename_i hk
      rcases List.mem_cons.mp hx with hx | hx
      · exact ⟨m, _, by simp, hx⟩
      · have hx : x ∈ xr (m % 2 ^ low (xr m p.2) r) p.2 :: sbh (xr (m % 2 ^ low (xr m p.2) r) p.2) (thw (xr m p.2) r) := hx
        rw [xr_mod h1.1 hk] at hx
        obtain ⟨y, l, hy, e⟩ := ih x hx
        exact ⟨y, l, List.mem_cons_of_mem _ hy, e⟩
    · rename_i hk
      rw [xr_mod2 (by omega : low (xr m p.2) r < p.2)] at hx
      obtain ⟨y, l, hy, e⟩ := ih x hx
      exact ⟨y, l, List.mem_cons_of_mem _ hy, e⟩
/-- what is held between a way and the thinned one -/
structure Thn (n s : Nat) (w x : List Mv) : Prop where
  leg : lgw n s 0 x
  fin : fin 0 x = fin 0 w
  sub : x.Sublist w
  cnt : ∀ a ∈ 0 :: sbh 0 x, ∃ b ∈ 0 :: sbh 0 w, cnt 24 a ≤ cnt 24 b
theorem Thn.once {n s : Nat} {w x : List Mv} (hn : n ≤ 900) (h : Thn n s w x) : Thn n s w (once x) := by
  have ok := lgw_ok hn h.leg
  have z : 0 % 2 ^ low 0 x = 0 := Nat.zero_mod _
  refine ⟨?_, ?_, thw_sub.trans h.sub, fun a ha => ?_⟩
  · have := lgw_thw h.leg
    rw [z] at this; exact this
  · have := fin_thw ok
    rw [z] at this
    exact this.trans h.fin
  · have := sets_thw ok a
    rw [z] at this
    obtain ⟨y, l, hy, rfl⟩ := this ha
    obtain ⟨b, hb, e⟩ := h.cnt y hy
    exact ⟨b, hb, Nat.le_trans cnt_mod e⟩
theorem Thn.itn {n s : Nat} {w : List Mv} (hn : n ≤ 900) (h : lgw n s 0 w) : ∀ k, Thn n s w (itn k w)
  | 0 => ⟨h, rfl, List.Sublist.refl _, fun a ha => ⟨a, ha, Nat.le_refl _⟩⟩
  | k + 1 => (Thn.itn hn h k).once hn
theorem Fx.thn {n s : Nat} {w x : List Mv} (hn : n ≤ 900) (h : lgw n s 0 w) (f : Fx w x) : Thn n s w x := by
  obtain ⟨⟨k, rfl⟩, _⟩ := f
  exact Thn.itn hn h k
theorem lgw_mem {n s : Nat} : ∀ {w : List Mv} {m : Nat}, lgw n s m w → ∀ p ∈ w, 1 ≤ p.2 ∧ p.2 ≤ n
  | [], _, _, p, hp => by simp at hp
  | q :: r, m, ⟨h1, h2⟩, p, hp => by
    rcases List.mem_cons.mp hp with e | hp
    · subst e; exact h1.1
    · exact lgw_mem h2 p hp
/-- a way gone back -/
noncomputable def bkw (w : List Mv) : List Mv := (w.map fun p => (!p.1, p.2)).reverse
theorem xadd_lst {G : Gp} {a b : Addr} {xs ys : List D} {q : DK} (ha : G a = some (.lst xs)) (hb : G b = some (.lst ys)) (hz : xs.length + ys.length ≤ sizeLine) (k : ∀ p, G p = none → q (.ref p) (gup G p (.lst (xs ++ ys)))) : xAdd (.ref a) (.ref b) G q := by
  unfold xAdd
  simp only [ha, hb]
  exact ⟨hz, k⟩
theorem xsum_ints {G : Gp} {a : Addr} {ns : List Int} {q : DK} (h : seqOf (G a) = some (ns.map .int)) (k : q (.int ns.sum) G) : xSum [.ref a] G q := by
  unfold xSum
  simp only [h, allInt_map]
  exact k
theorem cut_take {α : Type} {xs : List α} {n : Nat} : cutD xs none (some (n : Int)) = xs.take n := by
  unfold cutD
  rw [HT.sIx_none, HT.sIx_nat, List.drop_zero, Nat.sub_zero]
  rcases Nat.le_total n xs.length with h | h
  · rw [Nat.min_eq_left h]
  · rw [Nat.min_eq_right h, List.take_of_length_le (Nat.le_refl _), List.take_of_length_le h]
theorem cnt_zero : ∀ {n : Nat}, cnt n 0 = 0
  | 0 => rfl
  | n + 1 => by rw [cnt, cnt_zero, Nat.zero_testBit]; rfl
end L3

namespace L3
open PySem PySem.Spec PyProof.Rows L2 Rw
noncomputable def cap : Nat → Bool → Nat
  | 0, _ => 0
  | s + 1, true => 2 ^ s
  | s + 1, false => 2 ^ (s + 1) - 1
/-- a way from the mark at f to the mark at l, by s places; b: alone -/
noncomputable def WOK (f l s : Nat) (b : Bool) (w : List Mv) : Prop := ∀ n S m, l ≤ n → (f = 0 ∨ m.testBit (f - 1) = true) → (∀ i, f ≤ i → i < l → m.testBit i = false) → cnt n m + s ≤ S →
  lgw n S m w ∧ (∀ i, (i < f ∨ l ≤ i) → (fin m w).testBit i = m.testBit i) ∧ (fin m w).testBit (l - 1) = true ∧ (b = true → ∀ i, f ≤ i → i + 1 < l → (fin m w).testBit i = false)
theorem WOK.fin_xr {f l s : Nat} {w : List Mv} (hl : f < l) (h : WOK f l s true w) {n S m : Nat} (hn : l ≤ n) (hf : f = 0 ∨ m.testBit (f - 1) = true) (hz : ∀ i, f ≤ i → i < l → m.testBit i = false) (hc : cnt n m + s ≤ S) : fin m w = xr m l := by
  obtain ⟨_, h2, h3, h4⟩ := h n S m hn hf hz hc
  refine Nat.eq_of_testBit_eq fun i => ?_
  rw [xr_bit]
  by_cases e : l - 1 = i
  · subst e
    rw [h3, hz _ (by omega) (by omega)]
    simp
  · have : decide (l - 1 = i) = false := decide_eq_false e
    rw [this, Bool.xor_false]
    by_cases h5 : i < f ∨ l ≤ i
    · exact h2 i h5
    · rw [h4 rfl i (by omega) (by omega), hz i (by omega) (by omega)]
theorem WOK.start {l s n S : Nat} {b : Bool} {w : List Mv} (h : WOK 0 l s b w) (hn : l ≤ n) (hs : s ≤ S) : lgw n S 0 w ∧ (fin 0 w).testBit (l - 1) = true := by
  obtain ⟨a, _, c, _⟩ := h n S 0 hn (.inl rfl) (fun i _ _ => Nat.zero_testBit i) (by rw [cnt_zero]; omega)
  exact ⟨a, c⟩
theorem WOK.left {l s n S : Nat} {w : List Mv} (h0 : 0 < l) (h : WOK 0 l s true w) (hn : l ≤ n) (hs : s ≤ S) : fin 0 w = 2 ^ (l - 1) := by
  have e := h.fin_xr h0 (n := n) (S := S) hn (.inl rfl) (fun i _ _ => Nat.zero_testBit i) (by rw [cnt_zero]; omega)
  rw [e]
  unfold xr
  exact Nat.zero_xor _
theorem cap_pos {s : Nat} {b : Bool} (h : 1 ≤ s) : 1 ≤ cap s b := by
  cases s with
  | zero => omega
  | succ s =>
    have := Nat.two_pow_pos s
    cases b
    · simp only [cap]; rw [Nat.pow_succ]; omega
    · simp only [cap]; omega
noncomputable abbrev Pm := Option Mv
noncomputable def flp : Pm → Pm
  | none => none
  | some p => some (!p.1, p.2)
noncomputable def bkp (w : List Pm) : List Pm := (w.map flp).reverse
theorem bkp_some {w : List Mv} : bkp (w.map some) = (bkw w).map some := by
  unfold bkp bkw
  rw [List.map_map, List.map_reverse, List.map_map]
  rfl
/-- a plan that was drawn -/
noncomputable def PLN (n s : Nat) (left : Bool) (P : List Pm) : Prop :=
  if left then ∃ w : List Mv, P = w.map some ∧ lgw n s 0 w ∧ fin 0 w = 2 ^ (n - 1)
  else ∃ u v : List Mv, P = u.map some ++ [none] ++ (bkw v).map some ∧ lgw n s 0 u ∧ lgw n s 0 v ∧ fin 0 u = fin 0 v ∧ (fin 0 u).testBit (n - 1) = true
theorem bkw_mem {w : List Mv} {p : Mv} (h : p ∈ bkw w) : ∃ q ∈ w, q.2 = p.2 := by
  unfold bkw at h
  rw [List.mem_reverse, List.mem_map] at h
  obtain ⟨q, hq, rfl⟩ := h
  exact ⟨q, hq, rfl⟩
theorem PLN.mem {n s : Nat} {left : Bool} {P : List Pm} (h : PLN n s left P) : ∀ p, some p ∈ P → 1 ≤ p.2 ∧ p.2 ≤ n := by
  unfold PLN at h
  intro p hp
  split at h
  · obtain ⟨w, rfl, hw, _⟩ := h
    obtain ⟨q, hq, e⟩ := List.mem_map.mp hp
    cases e
    exact lgw_mem hw p hq
  · obtain ⟨u, v, rfl, hu, hv, _⟩ := h
    rcases List.mem_append.mp hp with hp | hp
    · rcases List.mem_append.mp hp with hp | hp
      · obtain ⟨q, hq, e⟩ := List.mem_map.mp hp
        cases e
        exact lgw_mem hu p hq
      · simp at hp
    · obtain ⟨q, hq, e⟩ := List.mem_map.mp hp
      cases e
      obtain ⟨r, hr, er⟩ := bkw_mem hq
      rw [← er]
      exact lgw_mem hv r hr
theorem ok_false {P : Program} {w : World} {K : PySem.W.Frag} {mg : Str → Option Value} {base : Heap} {n : Nat} {x qual : Str} {st : Stmt} {ps : List Str} {d : FnAt K x qual st ps} {S : Sp3} (h : ∀ ds G R, ¬ S ds G R) : Ok P w mg base n d S :=
  ⟨fun vs H Q E ⟨ds, G, R, _, _, s, _⟩ => absurd s (h ds G R), fun A outer s H args us vs Q E _ _ _ _ ⟨ds, G, R, _, _, s, _⟩ => absurd s (h ds G R)⟩
end L3
namespace Law
open PySem L2 L3 Rw
theorem Adv.grow {G G1 G2 : Gp} {st : Addr} (a : Adv st G G1) (g : Grow G1 G2) : Adv st G G2 := ⟨a.at_.grow g, fun c o h e => g.kp _ _ (a.kp c o h e)⟩
end Law

namespace L3
open PySem PySem.Spec PyProof.Rows L2 Rw
theorem bkw_bkw {w : List Mv} : bkw (bkw w) = w := by
  unfold bkw
  rw [List.map_reverse, List.reverse_reverse, List.map_map]
  have : ((fun p : Mv => (!p.1, p.2)) ∘ fun p : Mv => (!p.1, p.2)) = id := by funext p; show (!(!p.1), p.2) = p; rw [Bool.not_not]
  rw [this, List.map_id]
theorem PLN.turned {n s : Nat} {P : List Pm} (h : PLN n s false P) : PLN n s false (bkp P) := by
  unfold PLN at h ⊢
  rw [if_neg Bool.false_ne_true] at h ⊢
  obtain ⟨u, v, rfl, hu, hv, e, hb⟩ := h
  refine ⟨v, u, ?_, hv, hu, e.symm, by rw [← e]; exact hb⟩
  have : bkp (u.map some ++ [none] ++ (bkw v).map some) = bkp ((bkw v).map some) ++ [none] ++ bkp (u.map some) := by
    unfold bkp
    simp [flp]
  rw [this, bkp_some, bkp_some, bkw_bkw]
end L3

namespace L2
open PySem PySem.Spec PyProof.Rows
section
variable {X : Cx} {pins : List (Addr × Obj)} {σ : L2.St} {H : Hp} {s : Shared} {a b : Addr} {A : Around} {E : Value → Shared → Prop}
end
end L2
namespace L3
open PySem PySem.Spec PyProof.Rows L2
noncomputable def kD : Key → D
  | .inl i => .int i
  | .inr x => .str x
noncomputable def valD (kvs : List (List Key × D)) (k : List Key) : Option D := (kvs.find? fun kv => decide (kv.1 = k)).map (·.2)
noncomputable def putT (kvs : List (List Key × D)) (k : List Key) (v : D) : List (List Key × D) :=
  if (kvs.any fun kv => decide (kv.1 = k)) = true then kvs.map (fun kv => if kv.1 = k then (kv.1, v) else kv) else kvs ++ [(k, v)]
section
variable {X : Cx} {K : PySem.W.Frag} {G : Gp} {H : Hp} {p : Addr}
theorem Le.dT {xs ys : List (List Key × V)} (h : H p = some (.dT xs)) : Le H (upd H p (.dT ys)) :=
  ⟨fun b zs q => by by_cases e : b = p
                    · subst e; rw [h] at q; cases q
                    · rw [upd_ne e]; exact q,
   fun b o u q => by by_cases e : b = p
                     · subst e; rw [h] at q; cases q
                     · rw [upd_ne e]; exact q⟩
end
end L3

namespace L2
open PySem PySem.Spec PyProof.Rows
/-! ### min of a list of tuples of ints -/
/-- what is compared stands in the heap -/
structure CmpIn (prog : Program) (w : World) (A : Around) (P : Nat → Value → Prop) (bt : Nat → Nat → Bool) (no : List Addr) (T : Heap → Prop) : Prop where
  keep : ∀ h h', T h → (∀ b o, b ∉ no → h.get? b = some o → h'.get? b = some o) → T h'
  cmp : ∀ i j x y (s : Shared) (Q : Value → Shared → Prop) (E : Value → Shared → Prop), T s.heap → P i x → P j y → Q (.bool (bt i j)) s → wpAny (model prog w) A (richCompare .Lt x y) Q E s
section
variable {prog : Program} {w : World} {A : Around} {R : Result → Shared → Prop} {it : Addr} {fp wr : List Addr} {n : Nat} {P : Nat → Value → Prop} {St : Nat → Heap → Prop} {T : Heap → Prop} {bt : Nat → Nat → Bool} {S : Addr}
end
section
variable {X : Cx}
end
end L2
namespace L3
open PySem PySem.Spec PyProof.Rows L2
section
variable {X : Cx} {K : PySem.W.Frag}
end
end L3

namespace L2
open PySem PySem.Spec PyProof.Rows
end L2
namespace L3
open PySem PySem.Spec PyProof.Rows L2
end L3

namespace L3
open PySem PySem.Spec PyProof.Rows L2 Rw
noncomputable def k3 (p b e : Nat) : List Key := [.inl (p : Int), .inl (b : Int), .inl (e : Int)]
noncomputable def k2 (p b : Nat) : List Key := [.inl (p : Int), .inl (b : Int)]
theorem k3_inj {p b e p' b' e' : Nat} (h : k3 p b e = k3 p' b' e') : p = p' ∧ b = b' ∧ e = e' := by
  unfold k3 at h
  simp at h
  omega
theorem k2_inj {p b p' b' : Nat} (h : k2 p b = k2 p' b') : p = p' ∧ b = b' := by
  unfold k2 at h
  simp at h
  omega
theorem find_app {kvs : List (List Key × D)} {k k' : List Key} {v : D} (hn : (kvs.any fun kv => decide (kv.1 = k)) = false) : valD (kvs ++ [(k, v)]) k' = if k' = k then some v else valD kvs k' := by
  induction kvs with
  | nil =>
    by_cases h : k' = k
    · subst h; simp [valD]
    · rw [if_neg h]
      have : ¬ k = k' := fun z => h z.symm
      simp [valD, this]
  | cons q r ih =>
    rw [List.any_cons, Bool.or_eq_false_iff] at hn
    have hq : ¬ q.1 = k := of_decide_eq_false hn.1
    have ih := ih hn.2
    by_cases h1 : q.1 = k'
    · have h2 : ¬ k' = k := fun z => hq (h1.trans z)
      rw [if_neg h2]
      simp [valD, List.find?_cons, h1]
    · have e1 : valD (q :: r ++ [(k, v)]) k' = valD (r ++ [(k, v)]) k' := by simp [valD, List.find?_cons, h1]
      have e2 : valD (q :: r) k' = valD r k' := by simp [valD, List.find?_cons, h1]
      rw [e1, e2, ih]
theorem valD_none {kvs : List (List Key × D)} {k : List Key} (h : valD kvs k = none) : (kvs.any fun kv => decide (kv.1 = k)) = false := by
  unfold valD at h
  rw [Option.map_eq_none_iff] at h
  rw [List.any_eq_false]
  intro x hx
  have := List.find?_eq_none.mp h x hx
  simpa using this
theorem val_put {kvs : List (List Key × D)} {k k' : List Key} {v : D} (h : valD kvs k = none) : valD (putT kvs k v) k' = if k' = k then some v else valD kvs k' := by
  have hn := valD_none h
  unfold putT
  rw [if_neg (by rw [hn]; decide)]
  exact find_app hn
/-- where a part may end -/
noncomputable def mA (p b e m : Nat) : Prop := if e - b = 1 then m = e else 2 ≤ p ∧ b < m ∧ m < e ∧ m - b ≤ cap (p - 1) true ∧ e - m ≤ cap (p - 1) true
noncomputable def mR (n p b m : Nat) : Prop := if n - b = 1 then m = n else 2 ≤ p ∧ b < m ∧ m < n ∧ m - b ≤ cap p true ∧ n - m ≤ cap (p - 1) false
noncomputable def vD (w : Int) (m : Nat) : D := .tup [.int w, .int (m : Int)]
/-- a table that has just the keys in Dm -/
noncomputable def TA (Dm : Nat → Nat → Nat → Prop) (kvs : List (List Key × D)) : Prop := ∀ p b e, (Dm p b e → ∃ w m, valD kvs (k3 p b e) = some (vD w m) ∧ mA p b e m) ∧ (¬ Dm p b e → valD kvs (k3 p b e) = none)
noncomputable def TR (n : Nat) (Dm : Nat → Nat → Prop) (kvs : List (List Key × D)) : Prop := ∀ p b, (Dm p b → ∃ w m, valD kvs (k2 p b) = some (vD w m) ∧ mR n p b m) ∧ (¬ Dm p b → valD kvs (k2 p b) = none)
theorem TA.congr {D1 D2 : Nat → Nat → Nat → Prop} {kvs : List (List Key × D)} (h : TA D1 kvs) (e : ∀ p b e, D1 p b e ↔ D2 p b e) : TA D2 kvs := fun p b e' => ⟨fun z => (h p b e').1 ((e p b e').mpr z), fun z => (h p b e').2 fun q => z ((e p b e').mp q)⟩
theorem TR.congr {n : Nat} {D1 D2 : Nat → Nat → Prop} {kvs : List (List Key × D)} (h : TR n D1 kvs) (e : ∀ p b, D1 p b ↔ D2 p b) : TR n D2 kvs := fun p b => ⟨fun z => (h p b).1 ((e p b).mpr z), fun z => (h p b).2 fun q => z ((e p b).mp q)⟩
theorem TA.put {Dm : Nat → Nat → Nat → Prop} {kvs : List (List Key × D)} {p b e m : Nat} {w : Int} (h : TA Dm kvs) (hn : ¬ Dm p b e) (hm : mA p b e m) : TA (fun p' b' e' => Dm p' b' e' ∨ (p' = p ∧ b' = b ∧ e' = e)) (putT kvs (k3 p b e) (vD w m)) := by
  intro p' b' e'
  rw [val_put ((h p b e).2 hn)]
  by_cases hk : k3 p' b' e' = k3 p b e
  · obtain ⟨rfl, rfl, rfl⟩ := k3_inj hk
    rw [if_pos rfl]
    exact ⟨fun _ => ⟨w, m, rfl, hm⟩, fun z => absurd (.inr ⟨rfl, rfl, rfl⟩) z⟩
  · rw [if_neg hk]
    refine ⟨fun z => (h p' b' e').1 (z.resolve_right fun q => hk ?_), fun z => (h p' b' e').2 fun q => z (.inl q)⟩
    obtain ⟨rfl, rfl, rfl⟩ := q
    rfl
theorem TR.put {n : Nat} {Dm : Nat → Nat → Prop} {kvs : List (List Key × D)} {p b m : Nat} {w : Int} (h : TR n Dm kvs) (hn : ¬ Dm p b) (hm : mR n p b m) : TR n (fun p' b' => Dm p' b' ∨ (p' = p ∧ b' = b)) (putT kvs (k2 p b) (vD w m)) := by
  intro p' b'
  rw [val_put ((h p b).2 hn)]
  by_cases hk : k2 p' b' = k2 p b
  · obtain ⟨rfl, rfl⟩ := k2_inj hk
    rw [if_pos rfl]
    exact ⟨fun _ => ⟨w, m, rfl, hm⟩, fun z => absurd (.inr ⟨rfl, rfl⟩) z⟩
  · rw [if_neg hk]
    refine ⟨fun z => (h p' b').1 (z.resolve_right fun q => hk ?_), fun z => (h p' b').2 fun q => z (.inl q)⟩
    obtain ⟨rfl, rfl⟩ := q
    rfl
theorem cap_two {p : Nat} (h : 2 ≤ p) : cap p true = 2 * cap (p - 1) true ∧ cap p false = cap p true + cap (p - 1) false := by
  obtain ⟨q, rfl⟩ : ∃ q, p = q + 2 := ⟨p - 2, by omega⟩
  have := Nat.two_pow_pos q
  show 2 ^ (q + 1) = 2 * 2 ^ q ∧ 2 ^ (q + 2) - 1 = 2 ^ (q + 1) + (2 ^ (q + 1) - 1)
  rw [Nat.pow_succ, Nat.pow_succ, Nat.pow_succ]
  omega
end L3

namespace L3
open PySem PySem.Spec PyProof.Rows L2 Rw
/-- the works of left plans over a part, by where they are parted -/
inductive Pa (c : Nat → Int) : Nat → Nat → Nat → Int → Prop
  | one {p b : Nat} : Pa c (p + 1) b (b + 1) (c b)
  | two {p b m e : Nat} {w1 w2 w3 : Int} : Pa c (p + 1) b m w1 → Pa c p m e w2 → Pa c p b m w3 → Pa c (p + 1) b e (w1 + w2 + w3)
/-- the works of ways to the last mark -/
inductive Pr (c : Nat → Int) (n : Nat) : Nat → Nat → Int → Prop
  | one {p b : Nat} : b + 1 = n → Pr c n (p + 1) b (c b)
  | two {p b m : Nat} {w1 w2 : Int} : Pa c (p + 1) b m w1 → Pr c n p m w2 → Pr c n (p + 1) b (w1 + w2)
variable {c c' : Nat → Int} {n p b e : Nat} {w : Int}
theorem Pa.lt (h : Pa c p b e w) : b < e ∧ 1 ≤ p := by
  induction h with
  | one => omega
  | two _ _ _ i1 i2 i3 => omega
theorem Pr.lt (h : Pr c n p b w) : b < n ∧ 1 ≤ p := by
  induction h with
  | one => omega
  | two h1 _ i => have := h1.lt; omega
theorem Pa.cap (h : Pa c p b e w) : e - b ≤ L3.cap p true := by
  induction h with
  | @one p b => have := cap_pos (s := p + 1) (b := true) (by omega); omega
  | @two p b m e w1 w2 w3 h1 h2 h3 i1 i2 i3 =>
    have q := (cap_two (p := p + 1) (by have := h2.lt; omega)).1
    rw [show p + 1 - 1 = p by omega] at q
    omega
theorem Pr.cap (h : Pr c n p b w) : n - b ≤ L3.cap p false := by
  induction h with
  | @one p b h => have := cap_pos (s := p + 1) (b := false) (by omega); omega
  | @two p b m w1 w2 h1 h2 i2 =>
    have q := (cap_two (p := p + 1) (by have := h2.lt; omega)).2
    rw [show p + 1 - 1 = p by omega] at q
    have := h1.cap
    omega
theorem Pa.more (h : Pa c p b e w) : Pa c (p + 1) b e w := by
  induction h with
  | one => exact .one
  | two _ _ _ i1 i2 i3 => exact .two i1 i2 i3
theorem Pr.more (h : Pr c n p b w) : Pr c n (p + 1) b w := by
  induction h with
  | one h => exact .one h
  | two h1 _ i2 => exact .two h1.more i2
theorem Pa.pos (hc : ∀ i, 0 ≤ c i) (h : Pa c p b e w) : 0 ≤ w := by
  induction h with
  | one => exact hc _
  | two _ _ _ i1 i2 i3 => omega
theorem Pa.pr (hc : ∀ i, 0 ≤ c i) (h : Pa c p b e w) : ∃ v, Pr c e p b v ∧ v ≤ w := by
  induction h with
  | one => exact ⟨_, .one rfl, Int.le_refl _⟩
  | two h1 _ h3 i1 i2 i3 =>
    obtain ⟨v2, q2, r2⟩ := i2
    have := h3.pos hc
    exact ⟨_, .two h1 q2, by omega⟩
theorem Pr.last (hc : ∀ i, 0 ≤ c i) {N : Nat} (h : Pr c N p b w) : ∀ n, N = n + 1 → b < n → ∃ v, Pr c n p b v ∧ v + c n ≤ w := by
  induction h with
  | one h => intro n e hb; omega
  | @two p b m w1 w2 h1 h2 i2 =>
    intro n e hb
    subst e
    rcases Nat.lt_or_ge m n with z | z
    · obtain ⟨v, q, r⟩ := i2 n rfl z
      exact ⟨w1 + v, .two h1 q, by omega⟩
    · have hm : m = n := by have := h2.lt; omega
      subst hm
      obtain ⟨v, q, r⟩ := h1.pr hc
      refine ⟨v, q, ?_⟩
      have hw : w2 = c m := by
        cases h2 with
        | one _ => rfl
        | two h3 h4 => have := h3.lt; have := h4.lt; omega
      omega
/-- the least of them -/
noncomputable def LeastA (c : Nat → Int) (p b e : Nat) (w : Int) : Prop := Pa c p b e w ∧ ∀ v, Pa c p b e v → w ≤ v
noncomputable def LeastR (c : Nat → Int) (n p b : Nat) (w : Int) : Prop := Pr c n p b w ∧ ∀ v, Pr c n p b v → w ≤ v
theorem LeastA.one {p b : Nat} : LeastA c (p + 1) b (b + 1) (c b) := by
  refine ⟨.one, fun v h => ?_⟩
  generalize he : b + 1 = e at h
  cases h with
  | one => exact Int.le_refl _
  | two h1 h2 _ => have := h1.lt; have := h2.lt; omega
theorem LeastR.one {p b : Nat} : LeastR c (b + 1) (p + 1) b (c b) := by
  refine ⟨.one rfl, fun v h => ?_⟩
  cases h with
  | one _ => exact Int.le_refl _
  | two h1 h2 => have := h1.lt; have := h2.lt; omega
/-- the least over the middles is the least -/
theorem LeastA.two {p b e : Nat} {w : Int} (hb : b + 1 < e) (hw : ∃ m w1 w2 w3, LeastA c (p + 1) b m w1 ∧ LeastA c p m e w2 ∧ LeastA c p b m w3 ∧ w = w1 + w2 + w3)
    (hl : ∀ m, b < m → m < e → m - b ≤ L3.cap p true → e - m ≤ L3.cap p true → ∃ w1 w2 w3, LeastA c (p + 1) b m w1 ∧ LeastA c p m e w2 ∧ LeastA c p b m w3 ∧ w ≤ w1 + w2 + w3) : LeastA c (p + 1) b e w := by
  obtain ⟨m, w1, w2, w3, h1, h2, h3, rfl⟩ := hw
  refine ⟨.two h1.1 h2.1 h3.1, fun v h => ?_⟩
  cases h with
  | one => omega
  | @two _ _ m' _ u1 u2 u3 q1 q2 q3 =>
    obtain ⟨x1, x2, x3, y1, y2, y3, y⟩ := hl m' q1.lt.1 q2.lt.1 q3.cap q2.cap
    have := y1.2 _ q1
    have := y2.2 _ q2
    have := y3.2 _ q3
    omega
theorem LeastR.two {n p b : Nat} {w : Int} (hb : b + 1 < n) (hw : ∃ m w1 w2, LeastA c (p + 1) b m w1 ∧ LeastR c n p m w2 ∧ w = w1 + w2)
    (hl : ∀ m, b < m → m < n → m - b ≤ L3.cap (p + 1) true → n - m ≤ L3.cap p false → ∃ w1 w2, LeastA c (p + 1) b m w1 ∧ LeastR c n p m w2 ∧ w ≤ w1 + w2) : LeastR c n (p + 1) b w := by
  obtain ⟨m, w1, w2, h1, h2, rfl⟩ := hw
  refine ⟨.two h1.1 h2.1, fun v h => ?_⟩
  cases h with
  | one h => omega
  | @two _ _ m' u1 u2 q1 q2 =>
    obtain ⟨x1, x2, y1, y2, y⟩ := hl m' q1.lt.1 q2.lt.1 q1.cap q2.cap
    have := y1.2 _ q1
    have := y2.2 _ q2
    omega
theorem Pa.congr (h : Pa c p b e w) : (∀ i, i < e → c i = c' i) → Pa c' p b e w := by
  induction h with
  | @one p b => intro hc; rw [hc b (by omega)]; exact .one
  | two h1 h2 h3 i1 i2 i3 =>
    intro hc
    have := h2.lt
    exact .two (i1 fun i hi => hc i (by omega)) (i2 hc) (i3 fun i hi => hc i (by omega))
theorem Pr.congr (h : Pr c n p b w) : (∀ i, i < n → c i = c' i) → Pr c' n p b w := by
  induction h with
  | @one p b hb => intro hc; rw [hc b (by omega)]; exact .one hb
  | two h1 h2 i2 =>
    intro hc
    have := h2.lt
    exact .two (h1.congr fun i hi => hc i (by omega)) (i2 hc)
theorem LeastA.congr (h : LeastA c p b e w) (hc : ∀ i, i < e → c i = c' i) : LeastA c' p b e w :=
  ⟨h.1.congr hc, fun v hv => h.2 v (hv.congr fun i hi => (hc i hi).symm)⟩
theorem LeastR.congr (h : LeastR c n p b w) (hc : ∀ i, i < n → c i = c' i) : LeastR c' n p b w :=
  ⟨h.1.congr hc, fun v hv => h.2 v (hv.congr fun i hi => (hc i hi).symm)⟩
end L3

namespace L3
open PySem PySem.Spec PyProof.Rows L2 Rw
noncomputable def cf (pl : List Int) (i : Nat) : Int := pl.getD i 0
/-- a table that has just the keys in Dm, each with its least work -/
noncomputable def TAv (c : Nat → Int) (Dm : Nat → Nat → Nat → Prop) (kvs : List (List Key × D)) : Prop := ∀ p b e, (Dm p b e → ∃ w m, valD kvs (k3 p b e) = some (vD w m) ∧ LeastA c p b e w) ∧ (¬ Dm p b e → valD kvs (k3 p b e) = none)
noncomputable def TRv (c : Nat → Int) (n : Nat) (Dm : Nat → Nat → Prop) (kvs : List (List Key × D)) : Prop := ∀ p b, (Dm p b → ∃ w m, valD kvs (k2 p b) = some (vD w m) ∧ LeastR c n p b w) ∧ (¬ Dm p b → valD kvs (k2 p b) = none)
theorem TAv.congr {c : Nat → Int} {D1 D2 : Nat → Nat → Nat → Prop} {kvs : List (List Key × D)} (h : TAv c D1 kvs) (e : ∀ p b e, D1 p b e ↔ D2 p b e) : TAv c D2 kvs := fun p b e' => ⟨fun z => (h p b e').1 ((e p b e').mpr z), fun z => (h p b e').2 fun q => z ((e p b e').mp q)⟩
theorem TRv.congr {n : Nat} {c : Nat → Int} {D1 D2 : Nat → Nat → Prop} {kvs : List (List Key × D)} (h : TRv c n D1 kvs) (e : ∀ p b, D1 p b ↔ D2 p b) : TRv c n D2 kvs := fun p b => ⟨fun z => (h p b).1 ((e p b).mpr z), fun z => (h p b).2 fun q => z ((e p b).mp q)⟩
theorem TAv.put {c : Nat → Int} {Dm : Nat → Nat → Nat → Prop} {kvs : List (List Key × D)} {p b e m : Nat} {w : Int} (h : TAv c Dm kvs) (hn : ¬ Dm p b e) (hm : LeastA c p b e w) : TAv c (fun p' b' e' => Dm p' b' e' ∨ (p' = p ∧ b' = b ∧ e' = e)) (putT kvs (k3 p b e) (vD w m)) := by
  intro p' b' e'
  rw [val_put ((h p b e).2 hn)]
  by_cases hk : k3 p' b' e' = k3 p b e
  · obtain ⟨rfl, rfl, rfl⟩ := k3_inj hk
    rw [if_pos rfl]
    exact ⟨fun _ => ⟨w, m, rfl, hm⟩, fun z => absurd (.inr ⟨rfl, rfl, rfl⟩) z⟩
  · rw [if_neg hk]
    refine ⟨fun z => (h p' b' e').1 (z.resolve_right fun q => hk ?_), fun z => (h p' b' e').2 fun q => z (.inl q)⟩
    obtain ⟨rfl, rfl, rfl⟩ := q
    rfl
theorem TRv.put {n : Nat} {c : Nat → Int} {Dm : Nat → Nat → Prop} {kvs : List (List Key × D)} {p b m : Nat} {w : Int} (h : TRv c n Dm kvs) (hn : ¬ Dm p b) (hm : LeastR c n p b w) : TRv c n (fun p' b' => Dm p' b' ∨ (p' = p ∧ b' = b)) (putT kvs (k2 p b) (vD w m)) := by
  intro p' b'
  rw [val_put ((h p b).2 hn)]
  by_cases hk : k2 p' b' = k2 p b
  · obtain ⟨rfl, rfl⟩ := k2_inj hk
    rw [if_pos rfl]
    exact ⟨fun _ => ⟨w, m, rfl, hm⟩, fun z => absurd (.inr ⟨rfl, rfl⟩) z⟩
  · rw [if_neg hk]
    refine ⟨fun z => (h p' b').1 (z.resolve_right fun q => hk ?_), fun z => (h p' b').2 fun q => z (.inl q)⟩
    obtain ⟨rfl, rfl⟩ := q
    rfl
end L3

namespace L3
open PySem PySem.Spec PyProof.Rows L2 Rw
noncomputable def AnsA (pl : List Int) (s : Nat) (x : Option Int) : Prop := (∃ W, x = some W ∧ LeastA (cf pl) s 0 pl.length W) ∨ (¬ pl.length ≤ cap s true ∧ x = none)
noncomputable def AnsR (pl : List Int) (s : Nat) (x : Option Int) : Prop := (∃ W, x = some W ∧ LeastR (cf pl) pl.length s 0 W) ∨ (¬ pl.length ≤ cap s false ∧ x = none)
variable {pl pl' : List Int} {s : Nat} {x y : Option Int}
theorem AnsA.get (h : AnsA pl s x) {W : Int} (e : x = some W) : LeastA (cf pl) s 0 pl.length W := by
  rcases h with ⟨V, rfl, hV⟩ | ⟨_, rfl⟩
  · cases e; exact hV
  · cases e
theorem AnsR.get (h : AnsR pl s x) {W : Int} (e : x = some W) : LeastR (cf pl) pl.length s 0 W := by
  rcases h with ⟨V, rfl, hV⟩ | ⟨_, rfl⟩
  · cases e; exact hV
  · cases e
end L3

namespace L3
open PySem PySem.Spec PyProof.Rows L2 Rw
section
variable {X : Cx} {K : PySem.W.Frag} {H : Hp}
end
noncomputable def OA (c : Nat → Int) (p b e : Nat) (x : Option Int) : Prop := (∃ W, x = some W ∧ LeastA c p b e W) ∨ (x = none ∧ ∀ w, ¬ Pa c p b e w)
noncomputable def OR (c : Nat → Int) (n p b : Nat) (x : Option Int) : Prop := (∃ W, x = some W ∧ LeastR c n p b W) ∨ (x = none ∧ ∀ w, ¬ Pr c n p b w)
variable {c : Nat → Int} {n p b e f z M : Nat} {x y : Option Int} {w : Int}
theorem OA.of (h : OA c p b e x) (q : Pa c p b e w) : ∃ W, x = some W ∧ W ≤ w := by
  rcases h with ⟨W, rfl, hW⟩ | ⟨_, h⟩
  · exact ⟨W, rfl, hW.2 _ q⟩
  · exact absurd q (h _)
theorem OR.of (h : OR c n p b x) (q : Pr c n p b w) : ∃ W, x = some W ∧ W ≤ w := by
  rcases h with ⟨W, rfl, hW⟩ | ⟨_, h⟩
  · exact ⟨W, rfl, hW.2 _ q⟩
  · exact absurd q (h _)
theorem OA.pa (h : OA c p b e (some w)) : Pa c p b e w := by
  rcases h with ⟨W, e, hW⟩ | ⟨e, _⟩
  · cases e; exact hW.1
  · cases e
theorem OR.pr (h : OR c n p b (some w)) : Pr c n p b w := by
  rcases h with ⟨W, e, hW⟩ | ⟨e, _⟩
  · cases e; exact hW.1
  · cases e
theorem OA.eq (h : OA c p b e x) (h' : OA c p b e y) : x = y := by
  rcases h with ⟨W, rfl, hW⟩ | ⟨rfl, h⟩
  · obtain ⟨V, rfl, hV⟩ := h'.of hW.1
    have := hW.2 _ h'.pa
    congr 1; omega
  · rcases h' with ⟨W, rfl, hW⟩ | ⟨rfl, _⟩
    · exact absurd hW.1 (h _)
    · rfl
theorem OR.eq (h : OR c n p b x) (h' : OR c n p b y) : x = y := by
  rcases h with ⟨W, rfl, hW⟩ | ⟨rfl, h⟩
  · obtain ⟨V, rfl, hV⟩ := h'.of hW.1
    have := hW.2 _ h'.pr
    congr 1; omega
  · rcases h' with ⟨W, rfl, hW⟩ | ⟨rfl, _⟩
    · exact absurd hW.1 (h _)
    · rfl
theorem OA.zero : OA c 0 b e none := .inr ⟨rfl, fun w q => by have := q.lt; omega⟩
theorem OR.zero : OR c n 0 b none := .inr ⟨rfl, fun w q => by have := q.lt; omega⟩
/-- what has been gathered over the middles below M -/
noncomputable def Hts (P : Nat → Option Int → Prop) (M : Nat) (xs : List (Option Int)) : Prop := (∀ y ∈ xs, y = none ∨ ∃ m, 1 ≤ m ∧ m < M ∧ P m y) ∧ ∀ m, 1 ≤ m → m < M → ∃ y ∈ xs, P m y
theorem Hts.nil {P : Nat → Option Int → Prop} : Hts P 1 [none] := ⟨fun y h => .inl (by simpa using h), fun m h1 h2 => by omega⟩
theorem Hts.add {P : Nat → Option Int → Prop} {xs : List (Option Int)} (h : Hts P M xs) (hM : 1 ≤ M) (hy : P M y) : Hts P (M + 1) (xs ++ [y]) := by
  refine ⟨fun v hv => ?_, fun m h1 h2 => ?_⟩
  · rcases List.mem_append.mp hv with q | q
    · rcases h.1 v q with r | ⟨m, r1, r2, r3⟩
      · exact .inl r
      · exact .inr ⟨m, r1, by omega, r3⟩
    · rw [List.mem_singleton.mp q]; exact .inr ⟨M, hM, by omega, hy⟩
  · rcases Nat.lt_or_ge m M with q | q
    · obtain ⟨v, r1, r2⟩ := h.2 m h1 q
      exact ⟨v, List.mem_append_left _ r1, r2⟩
    · have : m = M := by omega
      subst this
      exact ⟨y, List.mem_append_right _ (List.mem_singleton.mpr rfl), hy⟩
theorem OA.one : OA c (p + 1) b (b + 1) (some (c b)) := .inl ⟨_, rfl, LeastA.one⟩
theorem OR.one : OR c (b + 1) (p + 1) b (some (c b)) := .inl ⟨_, rfl, LeastR.one⟩
/-- a table over pairs of numbers -/
noncomputable def TG (Dm : Nat → Nat → Prop) (Pv : Nat → Nat → D → Prop) (kvs : List (List Key × D)) : Prop := ∀ f z, (Dm f z → ∃ d, valD kvs (k2 f z) = some d ∧ Pv f z d) ∧ (¬ Dm f z → valD kvs (k2 f z) = none)
theorem TG.congr {D1 D2 : Nat → Nat → Prop} {Pv : Nat → Nat → D → Prop} {kvs : List (List Key × D)} (h : TG D1 Pv kvs) (e : ∀ f z, D1 f z ↔ D2 f z) : TG D2 Pv kvs := fun f z => ⟨fun q => (h f z).1 ((e f z).mpr q), fun q => (h f z).2 fun r => q ((e f z).mp r)⟩
theorem TG.put {Dm : Nat → Nat → Prop} {Pv : Nat → Nat → D → Prop} {kvs : List (List Key × D)} {d : D} (h : TG Dm Pv kvs) (hn : ¬ Dm f z) (hd : Pv f z d) : TG (fun f' z' => Dm f' z' ∨ (f' = f ∧ z' = z)) Pv (putT kvs (k2 f z) d) := by
  intro f' z'
  rw [val_put ((h f z).2 hn)]
  by_cases hk : k2 f' z' = k2 f z
  · obtain ⟨rfl, rfl⟩ := k2_inj hk
    rw [if_pos rfl]
    exact ⟨fun _ => ⟨d, rfl, hd⟩, fun q => absurd (.inr ⟨rfl, rfl⟩) q⟩
  · rw [if_neg hk]
    refine ⟨fun q => (h f' z').1 (q.resolve_right fun r => hk ?_), fun q => (h f' z').2 fun r => q (.inl r)⟩
    obtain ⟨rfl, rfl⟩ := r
    rfl
end L3

namespace L2
open PySem PySem.Spec PyProof.Rows
section
variable {X : Cx}
end
end L2
namespace L3
open PySem PySem.Spec PyProof.Rows L2
section
variable {X : Cx} {K : PySem.W.Frag} {H : Hp} {σ : L2.St} {a b c : Expr} {ta tb tc : TE3} {pos : Pos}
/-- a op1 b op2 c -/
noncomputable def dChain (r r' : R3) (ta tb tc : TE3) : TE3 := fun σ G q => ta σ G fun x G1 => tb σ G1 fun y G2 => r x y G2 fun z G3 => match z with
  | .bl k => if k = true then tc σ G3 fun w G4 => r' y w G4 q else q (.bl false) G3
  | _ => False
theorem low_chain {r r' : R3} {Q : VK} (h : lowE K (dChain r r' ta tb tc) σ H Q) : tChain (lowR K r) (lowR K r') (lowE K ta) (lowE K tb) (lowE K tc) σ H Q := by
  obtain ⟨σd, G, q, rs, c, t, f⟩ := h
  refine ⟨σd, G, _, rs, c, t, fun d G1 v H1 r1 c1 l1 t1 => ⟨σd, G1, _, rs.le l1, c1, t1, fun e G2 u H2 r2 c2 l2 t2 => ⟨d, e, G2, _, RelD.le l2 r1, r2, c2, t2, fun z G3 x H3 r3 c3 l3 t3 => ?_⟩⟩⟩
  have l13 := l1.trans (l2.trans l3)
  split at t3
  · rename_i k
    refine ⟨k, r3.bl_inv, ?_⟩
    cases k with
    | true =>
      rw [if_pos rfl] at t3 ⊢
      exact ⟨σd, G3, _, rs.le l13, c3, t3, fun z2 G4 x2 H4 r4 c4 l4 t4 => ⟨e, z2, G4, q, RelD.le (l3.trans l4) r2, r4, c4, t4, f.le (l13.trans l4)⟩⟩
    | false =>
      rw [if_neg Bool.false_ne_true] at t3 ⊢
      exact f _ _ _ _ RelD.blI c3 l13 t3
  · exact t3.elim
theorem e_chain {op op' : CmpOp} {r r' : R3} (ho : Op3 X (compareOp op) r) (ho' : Op3 X (compareOp op') r') (ha : E3 X a ta) (hb : E3 X b tb) (hc : E3 X c tc) (hm : lastMarks [op, op'] [b, c] = false := by with_unfolding_all rfl) : E3 X (.Compare a [op, op'] [b, c] pos) (dChain r r' ta tb tc) :=
  weakE (pe_chain ho ho' ha hb hc hm) fun _ _ _ => low_chain
theorem t_chain {op op' : CmpOp} {r r' : R3} (ho : Op3 X (compareOp op) r) (ho' : Op3 X (compareOp op') r') (ha : E3 X a ta) (hb : E3 X b tb) (hc : E3 X c tc) (hm : lastMarks [op, op'] [b, c] = false := by with_unfolding_all rfl) : T3 X (.Compare a [op, op'] [b, c] pos) (dB (dChain r r' ta tb tc)) :=
  weakT (pt_chain ho ho' ha hb hc hm) fun σ H Q h => by
    obtain ⟨σd, G, q, rs, c, t, f⟩ := h
    exact low_chain (K := X.K) ⟨σd, G, _, rs, c, t, fun x G1 v H1 r1 c1 l1 t1 => by
      split at t1
      · rename_i k
        exact ⟨k, r1.bl_inv, f _ _ _ c1 l1 t1⟩
      · exact t1.elim⟩
end
end L3

namespace L3
open PySem PySem.Spec PyProof.Rows L2 Rw
variable {c : Nat → Int} {n p b e : Nat} {w v : Int}
theorem LeastA.eq (h : LeastA c p b e w) (h' : LeastA c p b e v) : w = v := by
  have := h.2 _ h'.1
  have := h'.2 _ h.1
  omega
theorem LeastR.eq (h : LeastR c n p b w) (h' : LeastR c n p b v) : w = v := by
  have := h.2 _ h'.1
  have := h'.2 _ h.1
  omega
/-- what a table holds: the least work, and the middle that gives it -/
noncomputable def VA (c : Nat → Int) (p b e : Nat) (w : Int) (m : Nat) : Prop := LeastA c p b e w ∧ mA p b e m ∧ (e - b ≠ 1 → ∃ w1 w2 w3, LeastA c p b m w1 ∧ LeastA c (p - 1) m e w2 ∧ LeastA c (p - 1) b m w3 ∧ w = w1 + w2 + w3)
noncomputable def VR (c : Nat → Int) (n p b : Nat) (w : Int) (m : Nat) : Prop := LeastR c n p b w ∧ mR n p b m ∧ (n - b ≠ 1 → ∃ w1 w2, LeastA c p b m w1 ∧ LeastR c n (p - 1) m w2 ∧ w = w1 + w2)
noncomputable def TAw (c : Nat → Int) (Dm : Nat → Nat → Nat → Prop) (kvs : List (List Key × D)) : Prop := ∀ p b e, (Dm p b e → ∃ w m, valD kvs (k3 p b e) = some (vD w m) ∧ VA c p b e w m) ∧ (¬ Dm p b e → valD kvs (k3 p b e) = none)
noncomputable def TRw (c : Nat → Int) (n : Nat) (Dm : Nat → Nat → Prop) (kvs : List (List Key × D)) : Prop := ∀ p b, (Dm p b → ∃ w m, valD kvs (k2 p b) = some (vD w m) ∧ VR c n p b w m) ∧ (¬ Dm p b → valD kvs (k2 p b) = none)
theorem TAw.congr {D1 D2 : Nat → Nat → Nat → Prop} {kvs : List (List Key × D)} (h : TAw c D1 kvs) (e : ∀ p b e, D1 p b e ↔ D2 p b e) : TAw c D2 kvs := fun p b e' => ⟨fun z => (h p b e').1 ((e p b e').mpr z), fun z => (h p b e').2 fun q => z ((e p b e').mp q)⟩
theorem TRw.congr {D1 D2 : Nat → Nat → Prop} {kvs : List (List Key × D)} (h : TRw c n D1 kvs) (e : ∀ p b, D1 p b ↔ D2 p b) : TRw c n D2 kvs := fun p b => ⟨fun z => (h p b).1 ((e p b).mpr z), fun z => (h p b).2 fun q => z ((e p b).mp q)⟩
theorem TAw.put {Dm : Nat → Nat → Nat → Prop} {kvs : List (List Key × D)} {m : Nat} (h : TAw c Dm kvs) (hn : ¬ Dm p b e) (hm : VA c p b e w m) : TAw c (fun p' b' e' => Dm p' b' e' ∨ (p' = p ∧ b' = b ∧ e' = e)) (putT kvs (k3 p b e) (vD w m)) := by
  intro p' b' e'
  rw [val_put ((h p b e).2 hn)]
  by_cases hk : k3 p' b' e' = k3 p b e
  · obtain ⟨rfl, rfl, rfl⟩ := k3_inj hk
    rw [if_pos rfl]
    exact ⟨fun _ => ⟨w, m, rfl, hm⟩, fun z => absurd (.inr ⟨rfl, rfl, rfl⟩) z⟩
  · rw [if_neg hk]
    refine ⟨fun z => (h p' b' e').1 (z.resolve_right fun q => hk ?_), fun z => (h p' b' e').2 fun q => z (.inl q)⟩
    obtain ⟨rfl, rfl, rfl⟩ := q
    rfl
theorem TRw.put {Dm : Nat → Nat → Prop} {kvs : List (List Key × D)} {m : Nat} (h : TRw c n Dm kvs) (hn : ¬ Dm p b) (hm : VR c n p b w m) : TRw c n (fun p' b' => Dm p' b' ∨ (p' = p ∧ b' = b)) (putT kvs (k2 p b) (vD w m)) := by
  intro p' b'
  rw [val_put ((h p b).2 hn)]
  by_cases hk : k2 p' b' = k2 p b
  · obtain ⟨rfl, rfl⟩ := k2_inj hk
    rw [if_pos rfl]
    exact ⟨fun _ => ⟨w, m, rfl, hm⟩, fun z => absurd (.inr ⟨rfl, rfl⟩) z⟩
  · rw [if_neg hk]
    refine ⟨fun z => (h p' b').1 (z.resolve_right fun q => hk ?_), fun z => (h p' b').2 fun q => z (.inl q)⟩
    obtain ⟨rfl, rfl⟩ := q
    rfl
end L3

namespace L2
open PySem PySem.Spec PyProof.Rows
noncomputable def jn (sep : Str) (ws : List Str) : Str := Builtin.Str.glued sep ws
section
variable {X : Cx}
theorem vals_strs : ∀ {ws : List Str} {us : List Value}, Vals (ws.map V.str) us → ∃ l : List (Str × Tok), us = strValues l ∧ l.map (·.1) = ws
  | [], _, .nil => ⟨[], rfl, rfl⟩
  | w :: ws, _, .cons r t => by
    obtain ⟨l, rfl, e⟩ := vals_strs t
    obtain ⟨k, rfl⟩ := r
    exact ⟨(w, k) :: l, rfl, by rw [List.map_cons, e]⟩
noncomputable def rJoin (K : PySem.W.Frag) : V → List V → Hp → VK → Prop := fun x vs H Q => ∃ (sep : Str) (p : Addr) (ws : List Str), x = .str sep ∧ vs = [.ref p] ∧ SqL K H p (ws.map V.str) ∧ Builtin.Str.tooLong ((ws.toArray).foldl (· + ·.length + sep.length) 0) = false ∧ (jn sep ws).length ≤ sizeLine ∧ Q (.str (jn sep ws)) H
theorem mt_join : MtR X "str.join" (rJoin X.K) := by
  intro pins s σ H x vs v us Q I rx rv h
  obtain ⟨sep, p, ws, rfl, rfl, hq, hl, hz, q⟩ := h
  obtain ⟨t, rfl⟩ := rx
  obtain ⟨u, rfl, ru⟩ := rv.one
  cases ru
  obtain ⟨its, r', pl, _⟩ := I.list hq
  obtain ⟨l, rfl, e⟩ := vals_strs r'
  refine call_meets F.slot_str_join (typeIs_str _ _ _) F.entry_str_join (F.args_str_join_2 _ _) (meets_str_join_list sep t p l (by rw [e]; exact hl)) ⟨pl.isList, ?_⟩
  match l, e with
  | [], e =>
    subst e
    exact ⟨hz, .str _, H, I.tok _, ⟨_, rfl⟩, q⟩
  | [a], e =>
    subst e
    exact ⟨.str _, H, I, ⟨_, rfl⟩, q⟩
  | a :: b :: l, e =>
    subst e
    exact ⟨hz, .str _, H, I.tok _, ⟨_, rfl⟩, q⟩
end
end L2
namespace L3
open PySem PySem.Spec PyProof.Rows L2
section
variable {X : Cx} {K : PySem.W.Frag} {H : Hp} {o e : Expr} {es : List Expr} {to : TE3} {ts : TA3} {apos cpos : Pos}
@[reducible] def mJoin : M3 := fun x ds G q => ∃ (sep : Str) (a : Addr) (ws : List Str), x = .str sep ∧ ds = [.ref a] ∧ seqOf (G a) = some (ws.map .str) ∧ Builtin.Str.tooLong ((ws.toArray).foldl (· + ·.length + sep.length) 0) = false ∧ (jn sep ws).length ≤ sizeLine ∧ q (.str (jn sep ws)) G
theorem relS_inv : ∀ {ws : List Str} {vs : List V}, RelDs K H (ws.map .str) vs → vs = ws.map V.str
  | [], vs, r => r.inv_nil
  | w :: ws, vs, r => by
    obtain ⟨x, ys, rfl, h1, h2⟩ := r.inv_cons
    rw [relS_inv h2, h1.str_inv]; rfl
theorem ty_str (K : PySem.W.Frag) : ∀ G H x v, Con K G H → RelD K H x v → tyD G "str" x → tyV K "str" v H := by
  intro G H x v c r t
  cases x with
  | str i => cases r.str_inv; exact rfl
  | int _ => simp [tyD] at t
  | ref a => cases e : G a with
    | none => simp [tyD, e] at t
    | some o => cases o <;> simp [tyD, e] at t
  | _ => exact t.elim
theorem e_join (ho : E3 X o to) (ha : A3 X (e :: es) ts) (hbase : attributeBase o "join" X.env (eval o X.env) = eval o X.env := by rfl)
    (hfew : ((backTo cpos (starEach (e :: es) X.env)).all (fun x => !x.1) && (backToKw cpos (keywordEach [] X.env)).all (fun x => x.1.isSome)
      && decide ((e :: es).length + ([] : List Keyword).length + (if ([] : List Keyword).isEmpty then 0 else 1) < 30)) = true := by rfl)
    (hline : (apos.endLine == cpos.line) = true := by rfl) (hs : starEach (e :: es) X.env = (false, eval e X.env) :: starEach es X.env := by rfl) (hplain : (backTo cpos (starEach es X.env)).any (·.1) = false := by rfl) :
    E3 X (.Call (.Attribute o "join" apos) (e :: es) [] cpos) (dBM "str" mJoin to ts) :=
  weakE (pe_bm PySem.F.plainAttrs_str PySem.F.slot_str_join PySem.F.type_str_join (weakMt (r' := lowM X.K mJoin) mt_join <| by
    rintro x xs H Q ⟨d, ds, G, q, r1, r2, c, ⟨sep, a, ws, rfl, rfl, es, h1, h2, t⟩, f⟩
    obtain ⟨v, rfl, r3⟩ := r2.one
    cases r3.ref_inv
    cases r1.str_inv
    obtain ⟨ys, s1, q1⟩ := sql_of c es
    obtain rfl := relS_inv q1
    exact ⟨sep, a, ws, rfl, rfl, s1, h1, h2, f _ _ _ _ RelD.strI c (Le.refl H) t⟩) ho ha hbase hfew hline hs hplain) fun _ _ _ => low_bm (ty_str X.K)
theorem jn_len : ∀ ws : List Str, (jn Str.empty ws).length = (ws.map Str.length).sum := by
  have key : ∀ (ws : List Str) (acc : Array Nat), (ws.foldl (fun acc p => acc ++ Str.empty.cps ++ p.cps) acc).size = acc.size + (ws.map Str.length).sum := by
    intro ws
    induction ws with
    | nil => intro acc; simp
    | cons w ws ih =>
      intro acc
      rw [List.foldl_cons, ih, Array.size_append, Array.size_append]
      show acc.size + 0 + w.cps.size + _ = _
      rw [List.map_cons, List.sum_cons]
      show _ = acc.size + (w.cps.size + _)
      omega
  intro ws
  cases ws with
  | nil => rfl
  | cons w ws =>
    show (ws.foldl (fun acc p => acc ++ Str.empty.cps ++ p.cps) w.cps).size = _
    rw [key]
    rfl
end
end L3

namespace L2
open PySem PySem.Spec PyProof.Rows
section
variable {X : Cx}
/-- a text none or one time -/
theorem op_mulS : OpR X (binaryOp .Mult) (fun x y H Q => ∃ (z : Str) (n : Int), x = .str z ∧ y = .int n ∧ (n = 0 ∨ n = 1) ∧ Q (.str (if n = 0 then Str.empty else z)) H) := by
  intro pins s σ H x y v u Q I rx ry h
  obtain ⟨z, n, rfl, rfl, hn, q⟩ := h
  obtain ⟨t, rfl⟩ := rx
  obtain ⟨t2, rfl⟩ := ry
  rcases hn with rfl | rfl
  · exact PySem.P.mul_str_none (by decide) (by decide) ⟨.str _, H, I.tok _, ⟨_, rfl⟩, q⟩
  · refine PySem.P.mul_str (by decide) (fun _ h2 => by simp at h2) (fun _ h2 => by simp at h2) ?_
    rw [if_neg (by decide), if_pos (by simp)]
    exact ⟨.str z, H, I, ⟨_, rfl⟩, q⟩
end
end L2
namespace L3
open PySem PySem.Spec PyProof.Rows L2
section
variable {X : Cx}
@[reducible] def xMulS : R3 := fun x y G q => ∃ (z : Str) (n : Int), x = .str z ∧ y = .int n ∧ (n = 0 ∨ n = 1) ∧ q (.str (if n = 0 then Str.empty else z)) G
theorem x_mulS : Op3 X (binaryOp .Mult) xMulS := weakOp op_mulS fun x y H Q ⟨d, e, G, q, r1, r2, c, t, f⟩ => by
  obtain ⟨z, n, rfl, rfl, hn, t⟩ := t
  exact ⟨z, n, r1.str_inv, r2.int_inv, hn, f _ _ _ _ RelD.strI c (Le.refl H) t⟩
end
end L3

namespace L3
open PySem PySem.Spec PyProof.Rows L2 Rw
/-! programs: rows as they are written -/
inductive Atm
  | num (i : Nat)
  | box (x : Str)
noncomputable def aD : Atm → D
  | .num i => .int (i : Int)
  | .box x => .str x
inductive Rowp
  | is (x : Str) (a : Atm)
  | op (x o : Str) (a b : Atm)
  | cho (a : Atm) (ys ns : List Rowp)
  | tim (k : Nat) (ys : List Rowp)
mutual
noncomputable def rowD : Rowp → D
  | .is x a => .tup [.str "is", .str x, aD a]
  | .op x o a b => .tup [.str "op", .str x, .str o, aD a, aD b]
  | .cho a ys ns => .tup [.str "choose", aD a, .tup (rowsD ys), .tup (rowsD ns)]
  | .tim k ys => .tup [.str "times", .int (k : Int), .tup (rowsD ys)]
noncomputable def rowsD : List Rowp → List D
  | [] => []
  | r :: rs => rowD r :: rowsD rs
end
theorem rowsD_map : ∀ rs : List Rowp, rowsD rs = rs.map rowD
  | [] => rfl
  | r :: rs => by rw [rowsD, rowsD_map rs]; rfl
theorem rowsD_len (rs : List Rowp) : (rowsD rs).length = rs.length := by rw [rowsD_map, List.length_map]
theorem rowsD_app (a b : List Rowp) : rowsD (a ++ b) = rowsD a ++ rowsD b := by rw [rowsD_map, rowsD_map, rowsD_map, List.map_append]
/-- what an atom and a row may be, for boxes bs and the width W -/
noncomputable def okA (W : Nat) (bs : List Str) : Atm → Prop
  | .num i => i < 2 ^ W
  | .box x => x ∈ bs
noncomputable def signs : List Str := ["+", "-", "&", "|", "^", "<", "="]
mutual
noncomputable def okR (W : Nat) (bs : List Str) : Rowp → Prop
  | .is x a => x ∈ bs ∧ okA W bs a
  | .op x o a b => x ∈ bs ∧ o ∈ signs ∧ okA W bs a ∧ okA W bs b
  | .cho a ys ns => okA W bs a ∧ okL W bs ys ∧ okL W bs ns
  | .tim k ys => k ≤ 20 ∧ okL W bs ys
noncomputable def okL (W : Nat) (bs : List Str) : List Rowp → Prop
  | [] => True
  | r :: rs => okR W bs r ∧ okL W bs rs
end
theorem okL_app {W : Nat} {bs : List Str} : ∀ {a b : List Rowp}, okL W bs (a ++ b) ↔ okL W bs a ∧ okL W bs b
  | [], b => by simp [okL]
  | r :: a, b => by
    show okR W bs r ∧ okL W bs (a ++ b) ↔ (okR W bs r ∧ okL W bs a) ∧ okL W bs b
    rw [okL_app, and_assoc]
-- how deep rows lie in rows
mutual
noncomputable def depR : Rowp → Nat
  | .is _ _ => 0
  | .op _ _ _ _ => 0
  | .cho _ ys ns => 1 + max (depL ys) (depL ns)
  | .tim _ ys => 1 + depL ys
noncomputable def depL : List Rowp → Nat
  | [] => 0
  | r :: rs => max (depR r) (depL rs)
end
theorem depL_app : ∀ {a b : List Rowp}, depL (a ++ b) = max (depL a) (depL b)
  | [], b => by simp [depL]
  | r :: a, b => by
    show max (depR r) (depL (a ++ b)) = max (max (depR r) (depL a)) (depL b)
    rw [depL_app]; omega
-- how many rows there are when the rounds are written out
mutual
noncomputable def wtR : Rowp → Nat
  | .is _ _ => 1
  | .op _ _ _ _ => 1
  | .cho _ ys ns => 1 + wtL ys + wtL ns
  | .tim k ys => k * wtL ys
noncomputable def wtL : List Rowp → Nat
  | [] => 0
  | r :: rs => wtR r + wtL rs
end
theorem wtL_app : ∀ {a b : List Rowp}, wtL (a ++ b) = wtL a + wtL b
  | [], b => by simp [wtL]
  | r :: a, b => by
    show wtR r + wtL (a ++ b) = wtR r + wtL a + wtL b
    rw [wtL_app]; omega
-- how many rows are written
mutual
noncomputable def szR : Rowp → Nat
  | .is _ _ => 1
  | .op _ _ _ _ => 1
  | .cho _ ys ns => 1 + szL ys + szL ns
  | .tim _ ys => 1 + szL ys
noncomputable def szL : List Rowp → Nat
  | [] => 0
  | r :: rs => szR r + szL rs
end
theorem szL_app : ∀ {a b : List Rowp}, szL (a ++ b) = szL a + szL b
  | [], b => by simp [szL]
  | r :: a, b => by
    show szR r + szL (a ++ b) = szR r + szL a + szL b
    rw [szL_app]; omega
theorem szR_pos : ∀ r : Rowp, 1 ≤ szR r
  | .is _ _ => Nat.le_refl _
  | .op _ _ _ _ => Nat.le_refl _
  | .cho _ ys ns => by show 1 ≤ 1 + szL ys + szL ns; omega
  | .tim _ ys => by show 1 ≤ 1 + szL ys; omega
theorem len_sz : ∀ rs : List Rowp, rs.length ≤ szL rs
  | [] => Nat.le_refl _
  | r :: rs => by
    have := szR_pos r
    have := len_sz rs
    show rs.length + 1 ≤ szR r + szL rs
    omega
/-! what is opened and not yet shut: the newest first -/
inductive Hd
  | c1 (a : Atm)
  | c2 (a : Atm) (ys : List Rowp)
  | tm (k : Nat)
noncomputable def hdD : Hd → D
  | .c1 a => .tup [.str "choose", aD a]
  | .c2 a ys => .tup [.str "choose", aD a, .tup (rowsD ys)]
  | .tm k => .tup [.str "times", .int (k : Int)]
structure Fr where
  p : Addr
  ahead : List Rowp
  hd : Hd
  o : Nat
noncomputable def frD (f : Fr) : D := .tup [.ref f.p, hdD f.hd, .int (f.o : Int)]
noncomputable def Hd.mul : Hd → Nat
  | .tm k => k
  | _ => 1
noncomputable def Hd.wt : Hd → Nat
  | .c1 _ => 1
  | .c2 _ ys => 1 + wtL ys
  | .tm _ => 0
noncomputable def Hd.ys : Hd → List Rowp
  | .c2 _ ys => ys
  | _ => []
noncomputable def Hd.ok (W : Nat) (bs : List Str) : Hd → Prop
  | .c1 a => okA W bs a
  | .c2 a ys => okA W bs a ∧ okL W bs ys
  | .tm k => k ≤ 20
/-- all that hangs on the stack: rounds, weight, size, depth, rules -/
noncomputable def SK (W : Nat) (bs : List Str) : List Fr → Nat → List Rowp → Nat → Nat → Prop
  | [], o, rows, w, z => o = 1 ∧ wtL rows = w ∧ szL rows = z ∧ depL rows ≤ 5 ∧ okL W bs rows
  | f :: fs, o, rows, w, z => o = f.o * f.hd.mul ∧ depL rows + (fs.length + 1) ≤ 5 ∧ depL f.hd.ys + (fs.length + 1) ≤ 5 ∧ okL W bs rows ∧ f.hd.ok W bs ∧
    ∃ w' z', w = w' + o * wtL rows + f.o * f.hd.wt ∧ z = z' + szL rows + 1 + szL f.hd.ys ∧ SK W bs fs f.o f.ahead w' z'
/-! the purse that numbers are drawn of -/
noncomputable def PuAt (G : Gp) (pr : Addr) : Prop := ∃ a b : Int, 0 ≤ a ∧ 0 ≤ b ∧ b < 2147483648 ∧ G pr = some (.lst [.int a, .int b])
structure PAdv (pr : Addr) (G G' : Gp) : Prop where
  at_ : PuAt G' pr
  kp : ∀ c o, c ≠ pr → G c = some o → G' c = some o
theorem PuAt.grow {G G' : Gp} {pr : Addr} (h : PuAt G pr) (g : Grow G G') : PuAt G' pr := by
  obtain ⟨a, b, h1, h2, h3, h4⟩ := h
  exact ⟨a, b, h1, h2, h3, g.kp _ _ h4⟩
theorem PuAt.ne {G : Gp} {pr p : Addr} (h : PuAt G pr) (hp : G p = none) : p ≠ pr := by
  obtain ⟨a, b, _, _, _, h4⟩ := h
  exact fun e => by rw [e, h4] at hp; cases hp
theorem PAdv.refl {pr : Addr} {G : Gp} (h : PuAt G pr) : PAdv pr G G := ⟨h, fun _ _ _ e => e⟩
theorem PAdv.trans {pr : Addr} {G G1 G2 : Gp} (a : PAdv pr G G1) (b : PAdv pr G1 G2) : PAdv pr G G2 := ⟨b.at_, fun c o h e => b.kp c o h (a.kp c o h e)⟩
theorem PAdv.grow {pr : Addr} {G G1 G2 : Gp} (a : PAdv pr G G1) (g : Grow G1 G2) : PAdv pr G G2 := ⟨a.at_.grow g, fun c o h e => g.kp _ _ (a.kp c o h e)⟩
theorem PAdv.own {pr p : Addr} {G G1 : Gp} {o : DO} (a : PAdv pr G G1) (hp : G p = none) (hne : p ≠ pr) : PAdv pr G (gup G1 p o) := by
  refine ⟨?_, fun c u hc e => by rw [gup_ne (gne e hp)]; exact a.kp c u hc e⟩
  obtain ⟨x, y, h1, h2, h3, h4⟩ := a.at_
  exact ⟨x, y, h1, h2, h3, by rw [gup_ne (Ne.symm hne)]; exact h4⟩
theorem PAdv.fresh {pr p : Addr} {G G1 : Gp} (a : PAdv pr G G1) (hp : G1 p = none) (hne : p ≠ pr) : G p = none := by
  cases e : G p with
  | none => rfl
  | some o => rw [a.kp p o hne e] at hp; cases hp
/-- a purse that was made since: what was there stays -/
theorem PAdv.back {pr : Addr} {G G1 G2 : Gp} (g : Grow G G1) (hp : G pr = none) (a : PAdv pr G1 G2) : Grow G G2 := ⟨fun c o e => a.kp c o (gne e hp) (g.kp c o e)⟩
/-- all but one is kept -/
noncomputable def Kp (p : Addr) (G G' : Gp) : Prop := ∀ c o, c ≠ p → G c = some o → G' c = some o
/-- what shutting does -/
noncomputable def shF (f : Fr) (fs : List Fr) (rows : List Rowp) : List Fr × List Rowp := match f.hd with
  | .c1 a => ({ f with hd := .c2 a rows } :: fs, [])
  | .c2 a ys => (fs, f.ahead ++ [.cho a ys rows])
  | .tm k => (fs, f.ahead ++ [.tim k rows])
theorem SK.shut {W : Nat} {bs : List Str} {f : Fr} {fs : List Fr} {o : Nat} {rows : List Rowp} {w z : Nat} (h : SK W bs (f :: fs) o rows w z) : SK W bs (shF f fs rows).1 f.o (shF f fs rows).2 w z := by
  obtain ⟨p, ahead, hd, of⟩ := f
  obtain ⟨h1, h2, h3, h4, h5, w', z', e1, e2, h6⟩ := h
  cases hd with
  | c1 a =>
    simp only [Hd.mul, Nat.mul_one] at h1
    subst h1
    show SK W bs (⟨p, ahead, .c2 a rows, o⟩ :: fs) o [] w z
    have e1 : w = w' + o * wtL rows + o * 1 := e1
    have e2 : z = z' + szL rows + 1 + 0 := e2
    refine ⟨(Nat.mul_one o).symm, by simp only [depL]; omega, h2, trivial, ⟨h5, h4⟩, w', z', ?_, ?_, h6⟩
    · show w = w' + o * wtL [] + o * (1 + wtL rows)
      simp only [wtL, Nat.mul_add, Nat.mul_one, Nat.mul_zero] at e1 ⊢; omega
    · show z = z' + szL [] + 1 + szL rows
      simp only [szL]; omega
  | c2 a ys =>
    simp only [Hd.mul, Nat.mul_one] at h1
    subst h1
    simp only [Hd.wt, Hd.ys, Nat.mul_add, Nat.mul_one] at e1 e2 h3
    obtain ⟨h5a, h5b⟩ := h5
    cases fs with
    | nil =>
      obtain ⟨q1, q2, q3, q4, q5⟩ := h6
      have q1 : o = 1 := q1
      subst q1
      refine ⟨rfl, ?_, ?_, ?_, okL_app.mpr ⟨q5, ⟨h5a, h5b, h4⟩, trivial⟩⟩
      · show wtL (ahead ++ [.cho a ys rows]) = w
        rw [wtL_app]; simp only [wtL, wtR]; have : wtL ahead = w' := q2; omega
      · show szL (ahead ++ [.cho a ys rows]) = z
        rw [szL_app]; simp only [szL, szR]; have : szL ahead = z' := q3; omega
      · show depL (ahead ++ [.cho a ys rows]) ≤ 5
        rw [depL_app]; simp only [depL, depR]; have : depL ahead ≤ 5 := q4; simp at h2 h3; omega
    | cons g gs =>
      obtain ⟨q1, q2, q3, q4, q5, w2, z2, e3, e4, q6⟩ := h6
      have q1 : o = g.o * g.hd.mul := q1
      have q2 : depL ahead + (gs.length + 1) ≤ 5 := q2
      refine ⟨q1, ?_, q3, okL_app.mpr ⟨q4, ⟨h5a, h5b, h4⟩, trivial⟩, q5, w2, z2, ?_, ?_, q6⟩
      · show depL (ahead ++ [.cho a ys rows]) + (gs.length + 1) ≤ 5
        rw [depL_app]; simp only [depL, depR]; simp at h2 h3; omega
      · show w = w2 + o * wtL (ahead ++ [.cho a ys rows]) + g.o * g.hd.wt
        have e3 : w' = w2 + o * wtL ahead + g.o * g.hd.wt := e3
        rw [wtL_app]; simp only [wtL, wtR, Nat.mul_add, Nat.mul_one, Nat.mul_zero]; omega
      · show z = z2 + szL (ahead ++ [.cho a ys rows]) + 1 + szL g.hd.ys
        have e4 : z' = z2 + szL ahead + 1 + szL g.hd.ys := e4
        rw [szL_app]; simp only [szL, szR]; omega
  | tm k =>
    simp only [Hd.mul] at h1
    simp only [Hd.wt, Hd.ys, szL, Nat.mul_zero, Nat.add_zero] at e1 e2
    have em : o * wtL rows = of * (k * wtL rows) := by rw [h1, Nat.mul_assoc]
    cases fs with
    | nil =>
      obtain ⟨q1, q2, q3, q4, q5⟩ := h6
      have q1 : of = 1 := q1
      subst q1
      refine ⟨rfl, ?_, ?_, ?_, okL_app.mpr ⟨q5, ⟨h5, h4⟩, trivial⟩⟩
      · show wtL (ahead ++ [.tim k rows]) = w
        rw [wtL_app]; simp only [wtL, wtR]; have : wtL ahead = w' := q2; omega
      · show szL (ahead ++ [.tim k rows]) = z
        rw [szL_app]; simp only [szL, szR]; have : szL ahead = z' := q3; omega
      · show depL (ahead ++ [.tim k rows]) ≤ 5
        rw [depL_app]; simp only [depL, depR]; have : depL ahead ≤ 5 := q4; simp at h2; omega
    | cons g gs =>
      obtain ⟨q1, q2, q3, q4, q5, w2, z2, e3, e4, q6⟩ := h6
      have q1 : of = g.o * g.hd.mul := q1
      have q2 : depL ahead + (gs.length + 1) ≤ 5 := q2
      refine ⟨q1, ?_, q3, okL_app.mpr ⟨q4, ⟨h5, h4⟩, trivial⟩, q5, w2, z2, ?_, ?_, q6⟩
      · show depL (ahead ++ [.tim k rows]) + (gs.length + 1) ≤ 5
        rw [depL_app]; simp only [depL, depR]; simp at h2; omega
      · show w = w2 + of * wtL (ahead ++ [.tim k rows]) + g.o * g.hd.wt
        have e3 : w' = w2 + of * wtL ahead + g.o * g.hd.wt := e3
        rw [wtL_app]; simp only [wtL, wtR, Nat.mul_add, Nat.mul_zero]; omega
      · show z = z2 + szL (ahead ++ [.tim k rows]) + 1 + szL g.hd.ys
        have e4 : z' = z2 + szL ahead + 1 + szL g.hd.ys := e4
        rw [szL_app]; simp only [szL, szR]; omega
/-- a row more -/
theorem SK.row {W : Nat} {bs : List Str} {fs : List Fr} {o : Nat} {rows : List Rowp} {w z : Nat} {r : Rowp} (h : SK W bs fs o rows w z) (hr : okR W bs r) (h1 : wtR r = 1) (h2 : szR r = 1) (h3 : depR r = 0) : SK W bs fs o (rows ++ [r]) (w + o) (z + 1) := by
  cases fs with
  | nil =>
    obtain ⟨q1, q2, q3, q4, q5⟩ := h
    subst q1
    refine ⟨rfl, ?_, ?_, ?_, okL_app.mpr ⟨q5, hr, trivial⟩⟩
    · rw [wtL_app]; simp only [wtL]; omega
    · rw [szL_app]; simp only [szL]; omega
    · rw [depL_app]; simp only [depL]; omega
  | cons g gs =>
    obtain ⟨q1, q2, q3, q4, q5, w2, z2, e3, e4, q6⟩ := h
    refine ⟨q1, ?_, q3, okL_app.mpr ⟨q4, hr, trivial⟩, q5, w2, z2, ?_, ?_, q6⟩
    · rw [depL_app]; simp only [depL]; omega
    · rw [wtL_app]; simp only [wtL, Nat.mul_add, h1, Nat.mul_one, Nat.mul_zero]; omega
    · rw [szL_app]; simp only [szL]; omega
/-- a block opened -/
theorem SK.open_ {W : Nat} {bs : List Str} {fs : List Fr} {o : Nat} {rows : List Rowp} {w z : Nat} {p : Addr} {hd : Hd} (h : SK W bs fs o rows w z) (hl : fs.length < 5) (hh : hd.ok W bs) (hy : hd.ys = []) : SK W bs (⟨p, rows, hd, o⟩ :: fs) (o * hd.mul) [] (w + o * hd.wt) (z + 1) := by
  refine ⟨rfl, by simp [depL]; omega, by show depL hd.ys + _ ≤ 5; rw [hy]; simp [depL]; omega, trivial, hh, w, z, ?_, ?_, h⟩
  · simp [wtL]
  · show z + 1 = z + szL [] + 1 + szL hd.ys
    rw [hy]; simp [szL]
/-! that rows can be looked at whole -/
theorem snap_rows {G : Gp} : ∀ (d k : Nat) (r : Rowp), depR r ≤ d → ∃ s, snap G (k + 2 * d + 1) (rowD r) = some s := by
  intro d k
  induction d with
  | zero =>
    intro r h
    cases r with
    | is x a =>
      refine Rw.snap_tup (n := k + 2 * 0) fun e he => ?_
      simp only [List.mem_cons, List.not_mem_nil, or_false] at he
      rcases he with rfl | rfl | rfl
      · exact Rw.snap_str
      · exact Rw.snap_str
      · cases a <;> first | exact Rw.snap_int | exact Rw.snap_str
    | op x o a b =>
      refine Rw.snap_tup (n := k + 2 * 0) fun e he => ?_
      simp only [List.mem_cons, List.not_mem_nil, or_false] at he
      rcases he with rfl | rfl | rfl | rfl | rfl
      · exact Rw.snap_str
      · exact Rw.snap_str
      · exact Rw.snap_str
      · cases a <;> first | exact Rw.snap_int | exact Rw.snap_str
      · cases b <;> first | exact Rw.snap_int | exact Rw.snap_str
    | cho a ys ns => simp only [depR] at h; omega
    | tim k2 ys => simp only [depR] at h; omega
  | succ d ih =>
    intro r h
    have hin : ∀ ys : List Rowp, depL ys ≤ d → ∃ s, snap G (k + 2 * d + 2) (.tup (rowsD ys)) = some s := by
      intro ys hy
      refine Rw.snap_tup (n := k + 2 * d + 1) fun e he => ?_
      rw [rowsD_map] at he
      obtain ⟨r', hr', rfl⟩ := List.mem_map.mp he
      refine ih r' ?_
      clear he
      induction ys with
      | nil => cases hr'
      | cons y ys ih2 =>
        simp only [depL] at hy
        rcases List.mem_cons.mp hr' with e | e
        · subst e; omega
        · exact ih2 (by omega) e
    have at_ : ∀ a : Atm, ∃ s, snap G (k + 2 * d + 2) (aD a) = some s := fun a => by
      cases a <;> first | exact Rw.snap_int | exact Rw.snap_str
    cases r with
    | is x a =>
      refine Rw.snap_tup (n := k + 2 * d + 2) fun e he => ?_
      simp only [List.mem_cons, List.not_mem_nil, or_false] at he
      rcases he with rfl | rfl | rfl
      · exact Rw.snap_str
      · exact Rw.snap_str
      · exact at_ a
    | op x o a b =>
      refine Rw.snap_tup (n := k + 2 * d + 2) fun e he => ?_
      simp only [List.mem_cons, List.not_mem_nil, or_false] at he
      rcases he with rfl | rfl | rfl | rfl | rfl
      · exact Rw.snap_str
      · exact Rw.snap_str
      · exact Rw.snap_str
      · exact at_ a
      · exact at_ b
    | cho a ys ns =>
      simp only [depR] at h
      refine Rw.snap_tup (n := k + 2 * d + 2) fun e he => ?_
      simp only [List.mem_cons, List.not_mem_nil, or_false] at he
      rcases he with rfl | rfl | rfl | rfl
      · exact Rw.snap_str
      · exact at_ a
      · exact hin ys (by omega)
      · exact hin ns (by omega)
    | tim k2 ys =>
      simp only [depR] at h
      refine Rw.snap_tup (n := k + 2 * d + 2) fun e he => ?_
      simp only [List.mem_cons, List.not_mem_nil, or_false] at he
      rcases he with rfl | rfl | rfl
      · exact Rw.snap_str
      · exact Rw.snap_int
      · exact hin ys (by omega)
theorem mem_dep : ∀ {ys : List Rowp} {d : Nat}, depL ys ≤ d → ∀ r ∈ ys, depR r ≤ d
  | [], _, _, r, h => by cases h
  | y :: ys, d, hd, r, h => by
    simp only [depL] at hd
    rcases List.mem_cons.mp h with e | e
    · subst e; omega
    · exact mem_dep (by omega) r e
theorem snap_rowsl {G : Gp} {ys : List Rowp} {k : Nat} (h : depL ys ≤ 5) : ∀ e ∈ rowsD ys, ∃ s, snap G (k + 2 * 5 + 1) e = some s := by
  intro e he
  rw [rowsD_map] at he
  obtain ⟨r, hr, rfl⟩ := List.mem_map.mp he
  exact snap_rows 5 k r (mem_dep h r hr)
theorem mapM_len {α β : Type} {f : α → Option β} : ∀ {xs : List α} {ys : List β}, xs.mapM f = some ys → ys.length = xs.length
  | [], ys, h => by cases h; rfl
  | x :: xs, ys, h => by
    rw [List.mapM_cons] at h
    cases h1 : f x with
    | none => rw [h1] at h; cases h
    | some y =>
      rw [h1] at h
      cases h2 : xs.mapM f with
      | none => rw [h2] at h; cases h
      | some zs => rw [h2] at h; cases h; rw [List.length_cons, List.length_cons, mapM_len h2]
/-- what is opened, held against nothing -/
theorem cmp_frames {G : Gp} {op e : Addr} {fs : List Fr} {Q : Bool → Prop} (ko : G op = some (.lst ((fs.map frD).reverse))) (ke : G e = some (.lst [])) (hf : ∀ f ∈ fs, G f.p = some (.lst (rowsD f.ahead)) ∧ depL f.ahead ≤ 5 ∧ depL f.hd.ys ≤ 5) (h : Q (decide (fs.length = 0))) :
    ∃ n sd se r, n ≤ 40 ∧ snap G n (.ref op) = some sd ∧ snap G n (.ref e) = some se ∧ eqN n sd se = some r ∧ Q r := by
  have at_ : ∀ (a : Atm) (k : Nat), ∃ s, snap G k (aD a) = some s := fun a k => by
    cases a <;> first | exact Rw.snap_int | exact Rw.snap_str
  obtain ⟨ys, ey⟩ := mapM_all (f := snap G 15) (xs := (fs.map frD).reverse) fun d hd => by
    rw [List.mem_reverse] at hd
    obtain ⟨f, hf', rfl⟩ := List.mem_map.mp hd
    obtain ⟨k1, k2, k3⟩ := hf f hf'
    refine Rw.snap_tup (n := 14) fun e he => ?_
    simp only [List.mem_cons, List.not_mem_nil, or_false] at he
    rcases he with rfl | rfl | rfl
    · obtain ⟨zs, ez⟩ := mapM_all (f := snap G 13) (xs := rowsD f.ahead) (snap_rowsl (k := 2) k2)
      exact ⟨.lst zs, by show ((seqOf (G f.p)).bind fun ds => (ds.mapM (snap G 13)).map Sn.lst) = _; rw [k1]; show ((rowsD f.ahead).mapM (snap G 13)).map Sn.lst = _; rw [ez]; rfl⟩
    · cases hh : f.hd with
      | c1 a =>
        refine Rw.snap_tup (n := 13) fun e he => ?_
        simp only [List.mem_cons, List.not_mem_nil, or_false] at he
        rcases he with rfl | rfl
        · exact Rw.snap_str
        · exact at_ a _
      | c2 a ys =>
        rw [hh] at k3
        refine Rw.snap_tup (n := 13) fun e he => ?_
        simp only [List.mem_cons, List.not_mem_nil, or_false] at he
        rcases he with rfl | rfl | rfl
        · exact Rw.snap_str
        · exact at_ a _
        · exact Rw.snap_tup (n := 12) (snap_rowsl (k := 1) k3)
      | tm k =>
        refine Rw.snap_tup (n := 13) fun e he => ?_
        simp only [List.mem_cons, List.not_mem_nil, or_false] at he
        rcases he with rfl | rfl
        · exact Rw.snap_str
        · exact Rw.snap_int
    · exact Rw.snap_int
  have hl := mapM_len ey
  rw [List.length_reverse, List.length_map] at hl
  refine ⟨16, .lst ys, .lst [], decide (fs.length = 0), by decide, ?_, ?_, ?_, h⟩
  · show ((seqOf (G op)).bind fun ds => (ds.mapM (snap G 15)).map Sn.lst) = _
    rw [ko]
    show ((fs.map frD).reverse.mapM (snap G 15)).map Sn.lst = _
    rw [ey]; rfl
  · show ((seqOf (G e)).bind fun ds => (ds.mapM (snap G 15)).map Sn.lst) = _
    rw [ke]; rfl
  · show (if ys.length = ([] : List Sn).length then ((ys.zip []).mapM fun p => eqN 15 p.1 p.2).map fun bs => bs.all id else some false) = _
    by_cases h0 : fs.length = 0
    · have : ys = [] := List.eq_nil_of_length_eq_zero (by omega)
      subst this
      rw [decide_eq_true h0]; rfl
    · rw [if_neg (by show ¬ ys.length = 0; omega), decide_eq_false h0]
theorem SK.dep {W : Nat} {bs : List Str} : ∀ {fs : List Fr} {o : Nat} {rows : List Rowp} {w z : Nat}, SK W bs fs o rows w z → depL rows ≤ 5 ∧ ∀ f ∈ fs, depL f.ahead ≤ 5 ∧ depL f.hd.ys ≤ 5
  | [], _, _, _, _, ⟨_, _, _, h, _⟩ => ⟨h, fun f hf => by cases hf⟩
  | f :: fs, _, _, _, _, ⟨_, h2, h3, _, _, w', z', _, _, h6⟩ => by
    have q := SK.dep h6
    refine ⟨by omega, fun g hg => ?_⟩
    rcases List.mem_cons.mp hg with e | e
    · subst e; exact ⟨q.1, by omega⟩
    · exact q.2 g e
theorem SK.len {W : Nat} {bs : List Str} : ∀ {fs : List Fr} {o : Nat} {rows : List Rowp} {w z : Nat}, SK W bs fs o rows w z → rows.length ≤ z ∧ ∀ f ∈ fs, f.ahead.length ≤ z
  | [], _, rows, _, _, ⟨_, _, h, _, _⟩ => ⟨by have := len_sz rows; omega, fun f hf => by cases hf⟩
  | f :: fs, _, rows, _, _, ⟨_, _, _, _, _, w', z', _, e2, h6⟩ => by
    have q := SK.len h6
    have := len_sz rows
    refine ⟨by omega, fun g hg => ?_⟩
    rcases List.mem_cons.mp hg with e | e
    · subst e; have := q.1; omega
    · have := q.2 g e; omega
/-- how often is still to be shut -/
noncomputable def msF : List Fr → Nat
  | [] => 0
  | f :: fs => (match f.hd with | .c1 _ => 2 | _ => 1) + msF fs
theorem msF_shut {f : Fr} {fs : List Fr} {rows : List Rowp} : msF (shF f fs rows).1 + 1 = msF (f :: fs) := by
  obtain ⟨p, ahead, hd, o⟩ := f
  cases hd <;> simp only [msF, shF] <;> omega
theorem shF_mem {f : Fr} {fs : List Fr} {rows : List Rowp} : ∀ g ∈ (shF f fs rows).1, (g.p = f.p ∧ g.ahead = f.ahead) ∨ g ∈ fs := by
  obtain ⟨p, ahead, hd, o⟩ := f
  cases hd with
  | c1 a =>
    intro g hg
    rcases List.mem_cons.mp hg with e | e
    · subst e; exact .inl ⟨rfl, rfl⟩
    · exact .inr e
  | c2 a ys => exact fun g hg => .inr hg
  | tm k => exact fun g hg => .inr hg
theorem SK.fl {W : Nat} {bs : List Str} : ∀ {fs : List Fr} {o : Nat} {rows : List Rowp} {w z : Nat}, SK W bs fs o rows w z → fs.length ≤ 5
  | [], _, _, _, _, _ => by simp
  | f :: fs, _, _, _, _, ⟨_, h, _⟩ => by simp only [List.length_cons]; omega
theorem comb {a b c : Prop} [Decidable a] [Decidable b] [Decidable c] {A B : Prop} (h1 : a → b → c → A) (h2 : ¬ (a ∧ b ∧ c) → B) : if decide a = true then (if decide b = true then (if decide c = true then A else B) else B) else B := by
  by_cases ha : a
  · by_cases hb : b
    · by_cases hc : c
      · simpa [ha, hb, hc] using h1 ha hb hc
      · simpa [ha, hb, hc] using h2 fun h => hc h.2.2
    · simpa [ha, hb] using h2 fun h => hb h.2.1
  · simpa [ha] using h2 fun h => ha h.1
theorem noneOf {G G6 : Gp} {op q : Addr} (hop : G op = none) (k : ∀ c o, G c = some o → c ≠ op → G6 c = some o) (nq : q ≠ op) (h : G6 q = none) : G q = none := by
  cases e : G q with
  | none => rfl
  | some o => rw [k q o e nq] at h; cases h
end L3

namespace L2
open PySem PySem.Spec PyProof.Rows PySem.SeqAt
open AutoSeq1 (wpAny_loadPart')
end L2

namespace HT
open PySem PySem.Spec PyProof.Rows
variable {prog : Program} {w : World} {A : Around} {E : Value → Shared → Prop} {s : Shared}
end HT
namespace L2
open PySem PySem.Spec PyProof.Rows
section
variable {X : Cx}
end
end L2
namespace L3
open PySem PySem.Spec PyProof.Rows L2
section
variable {X : Cx}
end
end L3
namespace L3
open PySem PySem.Spec PyProof.Rows L2
section
variable {X : Cx}
end
end L3

namespace L2
open PySem PySem.Spec PyProof.Rows
/-! zip of lists and tuples, mixed: c says whether it is a tuple -/
noncomputable def tyN : Bool → String
  | true => "tuple_iterator"
  | false => "list_iterator"
noncomputable def SIt (c : Bool) (h : Heap) (it l : Addr) (i : Nat) : Prop := ∃ o, h.get? it = some o ∧ o.cls = .type (tyN c) ∧ o.data = .fields #[.ref l, .int i 0]
noncomputable def SOf (c : Bool) (h : Heap) (l : Addr) (xs : Array Value) : Prop := ∃ o, h.get? l = some o ∧ o.cls = .type (cond c "tuple" "list") ∧ ∃ n, o.data = .seq xs n
theorem SIt.at {c : Bool} {h h' : Heap} {it l : Addr} {i : Nat} (x : SIt c h it l i) (e : ∀ o, h.get? it = some o → h'.get? it = some o) : SIt c h' it l i := let ⟨o, ho, r⟩ := x; ⟨o, e _ ho, r⟩
theorem SOf.at {c : Bool} {h h' : Heap} {l : Addr} {xs : Array Value} (x : SOf c h l xs) (e : ∀ o, h.get? l = some o → h'.get? l = some o) : SOf c h' l xs := let ⟨o, ho, r⟩ := x; ⟨o, e _ ho, r⟩
section
variable {prog : Program} {w : World} {A : Around} {E : Value → Shared → Prop} {s : Shared}
end
end L2
namespace L2
open PySem PySem.Spec PyProof.Rows
theorem SOf.push {c : Bool} {h : Heap} {l : Addr} {xs : Array Value} (x : SOf c h l xs) (o : Obj) : SOf c (h.push o) l xs := x.at fun _ e => Heap.get?_push_of_some o e
set_option maxHeartbeats 4000000 in
section
variable {prog : Program} {w : World} {A : Around} {E : Value → Shared → Prop} {s : Shared}
end
end L2
namespace L3
open PySem PySem.Spec PyProof.Rows L2
noncomputable def sqD (G : Gp) : D → Option (List D)
  | .tup ds => some ds
  | .ref a => seqOf (G a)
  | _ => none
end L3

namespace L3
open PySem PySem.Spec PyProof.Rows L2 Rw
/-! rounds written out -/
-- no rounds in it
/-- the blocks within a row -/
noncomputable def blks : Rowp → List (List Rowp)
  | .cho _ ys ns => [ys, ns]
  | .tim _ ys => [ys]
  | _ => []
noncomputable def blksD (r : Rowp) : List D := (blks r).map fun ys => D.tup (rowsD ys)
theorem blks_dep {r : Rowp} : ∀ b ∈ blks r, depL b < depR r := by
  intro b h
  cases r with
  | is x a => cases h
  | op x o a c => cases h
  | cho a ys ns =>
    simp only [blks, List.mem_cons, List.not_mem_nil, or_false] at h
    show depL b < 1 + max (depL ys) (depL ns)
    rcases h with e | e <;> subst e <;> omega
  | tim k ys =>
    simp only [blks, List.mem_cons, List.not_mem_nil, or_false] at h
    subst h
    show depL b < 1 + depL b
    omega
noncomputable def szB : List (List Rowp) → Nat
  | [] => 0
  | b :: bs => szL b + szB bs
theorem szB_blks (r : Rowp) : szR r = 1 + szB (blks r) := by
  cases r with
  | is x a => rfl
  | op x o a c => rfl
  | cho a ys ns => show 1 + szL ys + szL ns = 1 + (szL ys + (szL ns + 0)); omega
  | tim k ys => show 1 + szL ys = 1 + (szL ys + 0); omega
-- what is written out under rounds of none stays small
/-! trees of tuples, numbers and texts -/
end L3
namespace L3
open PySem PySem.Spec PyProof.Rows L2 Rw
end L3
namespace L3
open PySem PySem.Spec PyProof.Rows L2 Rw
theorem szB_app : ∀ {a b : List (List Rowp)}, szB (a ++ b) = szB a + szB b
  | [], b => by simp [szB]
  | x :: a, b => by show szL x + szB (a ++ b) = szL x + szB a + szB b; rw [szB_app]; omega
end L3
namespace L3
open PySem PySem.Spec PyProof.Rows L2 Rw
theorem xEqB_bl {a : Bool} {G : Gp} {q : DK} : xEqB true (.bl a) (.bl a) G q = q (.bl false) G := by
  show q (.bl (!decide (a = a))) G = _
  rw [decide_eq_true rfl]; rfl
end L3
namespace L3
open PySem PySem.Spec PyProof.Rows L2 Rw
theorem seqOf_grow {G G' : Gp} {a : Addr} {ds : List D} (g : Grow G G') (h : seqOf (G a) = some ds) : seqOf (G' a) = some ds := by
  cases e : G a with
  | none => rw [e] at h; cases h
  | some o => rw [g.kp _ _ e, ← e]; exact h
end L3
namespace L3
end L3
namespace L3
open PySem PySem.Spec PyProof.Rows L2 Rw
end L3

namespace L2
open PySem PySem.Spec PyProof.Rows
section
variable {prog : Program} {w : World} {A : Around} {E : Value → Shared → Prop} {s : Shared}
end
/-- a zip amid dict(zip(..)): S is the dict -/
structure DzSt (c d : Bool) (l1 l2 z TI TO i1 i2 S : Addr) (xs ys : Array Value) (i : Nat) (h : Heap) : Prop where
  zz : IsZip h z TI TO .none ∨ ∃ T f oT, IsZipO h z TI TO T f ∧ h.get? T = some oT ∧ T ≠ z ∧ T ≠ TO ∧ T ≠ i1 ∧ T ≠ i2 ∧ T ≠ S
  ti : IsPair h TI (.ref i1) (.ref i2)
  to : ∃ u v, IsPair h TO u v
  h1 : SIt c h i1 l1 i
  h2 : SIt d h i2 l2 i
  m1 : SOf c h l1 xs
  m2 : SOf d h l2 ys
end L2

namespace L2
open PySem PySem.Spec PyProof.Rows
section
variable {prog : Program} {w : World} {A : Around} {E : Value → Shared → Prop} {s : Shared}
end
end L2
namespace L2
open PySem PySem.Spec PyProof.Rows
end L2
namespace L3
open PySem PySem.Spec PyProof.Rows L2
noncomputable def valK (kvs : List (Key × D)) (k : Key) : Option D := (kvs.find? fun kv => decide (kv.1 = k)).map (·.2)
noncomputable def putKD (kvs : List (Key × D)) (k : Key) (v : D) : List (Key × D) :=
  if (kvs.any fun kv => decide (kv.1 = k)) = true then kvs.map (fun kv => if kv.1 = k then (kv.1, v) else kv) else kvs ++ [(k, v)]
section
variable {X : Cx} {K : PySem.W.Frag} {G : Gp} {H : Hp} {p : Addr}
theorem valK_rel {k : Key} : ∀ {kvs : List (Key × D)} {ys : List (Key × V)}, RelPs K H kvs ys → (valK kvs k = none ∧ valV ys k = none) ∨ ∃ d v, valK kvs k = some d ∧ valV ys k = some v ∧ RelD K H d v
  | [], ys, ⟨h1, h2⟩ => by
    have : ys = [] := by cases ys with | nil => rfl | cons y ys => simp at h1
    subst this
    exact .inl ⟨rfl, rfl⟩
  | (k', d) :: kvs, [], ⟨h1, h2⟩ => by simp at h1
  | (k', d) :: kvs, (k2, v) :: ys, ⟨h1, h2⟩ => by
    rw [List.map_cons, List.map_cons] at h1
    obtain ⟨e1, e2⟩ := List.cons.inj h1
    have e1 : k' = k2 := e1
    subst e1
    obtain ⟨x, xs', e3, q1, q2⟩ := h2.inv_cons
    rw [List.map_cons] at e3
    obtain ⟨e4, e5⟩ := List.cons.inj e3
    have e4 : v = x := e4
    subst e4
    by_cases hk : k' = k
    · right
      exact ⟨d, v, by simp [valK, List.find?_cons, hk], valV_pos hk, q1⟩
    · have ih := valK_rel (k := k) (kvs := kvs) (ys := ys) ⟨e2, by rw [e5]; exact q2⟩
      have a1 : valK ((k', d) :: kvs) k = valK kvs k := by simp [valK, List.find?_cons, hk]
      rw [a1, valV_neg hk]
      exact ih
theorem mapK_rel {k : Key} {d : D} {v : V} (q : RelD K H d v) : ∀ {kvs : List (Key × D)} {ys : List (Key × V)}, RelPs K H kvs ys → RelPs K H (kvs.map (fun kv => if kv.1 = k then (kv.1, d) else kv)) (ys.map (fun kv => if kv.1 = k then (kv.1, v) else kv)) ∧ (kvs.any fun kv => decide (kv.1 = k)) = (ys.any fun kv => decide (kv.1 = k))
  | [], ys, ⟨h1, h2⟩ => by
    have : ys = [] := by cases ys with | nil => rfl | cons y ys => simp at h1
    subst this
    exact ⟨⟨rfl, .nil⟩, rfl⟩
  | (k', d') :: kvs, [], ⟨h1, h2⟩ => by simp at h1
  | (k', d') :: kvs, (k2, v') :: ys, ⟨h1, h2⟩ => by
    rw [List.map_cons, List.map_cons] at h1
    obtain ⟨e1, e2⟩ := List.cons.inj h1
    have e1 : k' = k2 := e1
    subst e1
    obtain ⟨x, xs', e3, q1, q2⟩ := h2.inv_cons
    rw [List.map_cons] at e3
    obtain ⟨e4, e5⟩ := List.cons.inj e3
    have e4 : v' = x := e4
    subst e4
    obtain ⟨⟨i1, i2⟩, i3⟩ := mapK_rel (k := k) q (kvs := kvs) (ys := ys) ⟨e2, by rw [e5]; exact q2⟩
    refine ⟨⟨?_, ?_⟩, by rw [List.any_cons, List.any_cons, i3]⟩
    · rw [List.map_cons, List.map_cons, List.map_cons, List.map_cons, i1]
      by_cases hk : k' = k <;> simp [hk]
    · rw [List.map_cons, List.map_cons, List.map_cons, List.map_cons]
      by_cases hk : k' = k
      · simp only [hk, if_true]; exact .cons q i2
      · simp only [hk, if_false]; exact .cons q1 i2
theorem putK_rel {k : Key} {d : D} {v : V} (q : RelD K H d v) {kvs : List (Key × D)} {ys : List (Key × V)} (h : RelPs K H kvs ys) : RelPs K H (putKD kvs k d) (putK ys k v) := by
  obtain ⟨i1, i3⟩ := mapK_rel (k := k) q h
  unfold putKD putK
  rw [i3]
  split
  · exact i1
  · exact ⟨by rw [List.map_append, List.map_append, h.1]; rfl, by rw [List.map_append, List.map_append]; exact h.2.append (.cons q .nil)⟩
theorem kD_inv {k : Key} {v : V} (r : RelD K H (kD k) v) : v = kV k := by
  cases k with
  | inl i => exact (show RelD K H (.int i) v from r).int_inv
  | inr x => exact (show RelD K H (.str x) v from r).str_inv
/-- d[x] = v -/
noncomputable def dPutK (td ti tv : TE3) : TS3 := fun Dn σ G => tv σ G fun v G1 => td σ G1 fun x G2 => ti σ G2 fun y G3 => ∃ (a : Addr) (kvs : List (Key × D)) (k : Key), x = .ref a ∧ y = kD k ∧ G3 a = some (.dic kvs) ∧ kvs.length < sizeLine ∧ Dn.nx σ (gup G3 a (.dic (putKD kvs k v)))
theorem s_dputK {k : Nat} {o i value : Expr} {pos pos' : Pos} {to ti tv : TE3} (hr : Room k X.A) (ho : E3 X o to) (hi : E3 X i ti) (hv : E3 X value tv)
    (hs : swapsWith value (some (.Subscript o i pos')) pos.line X.env = pure false := by rfl) : S3 X (.Assign [.Subscript o i pos'] value pos) (dPutK to ti tv) :=
  weakS (ps_dput (hu_of hr) ho hi hv hs) fun D σ H h => by
    obtain ⟨σd, G, d, rs, c, t, f⟩ := h
    refine ⟨σd, G, _, rs, c, t, fun v G1 w H1 r1 c1 l1 t1 => ⟨σd, G1, _, rs.le l1, c1, t1, fun x G2 u H2 r2 c2 l2 t2 => ⟨σd, G2, _, rs.le (l1.trans l2), c2, t2, fun y G3 z H3 r3 c3 l3 t3 => ?_⟩⟩⟩
    obtain ⟨a, kvs, k, rfl, rfl, hg, hl, t4⟩ := t3
    have r2' := RelD.le l3 r2
    cases r2'.ref_inv
    obtain rfl := kD_inv r3
    obtain ⟨ys, e, rp⟩ := c3 a _ hg
    have l5 : Le H3 (upd H3 a (.dK (putK ys k w))) := Le.dK e
    have lys : ys.length = kvs.length := by
      have := congrArg List.length rp.1
      rw [List.length_map, List.length_map] at this
      exact this.symm
    refine ⟨a, _, rfl, DPut.k e (by rw [lys]; exact hl), ?_⟩
    refine f.nx _ _ _ _ (((rs.le l1).le l2).le (l3.trans l5)) ?_ (l1.trans (l2.trans (l3.trans l5))) t4
    exact c3.put l5 ⟨_, upd_same, (putK_rel (RelD.le (l2.trans l3) r1) rp).le l5⟩
end
end L3

namespace L3
open PySem PySem.Spec PyProof.Rows L2 Rw
/-! what rows do: boxes bs hold vs -/
noncomputable def ixB : List Str → Str → Nat
  | [], _ => 0
  | b :: bs, x => if b = x then 0 else 1 + ixB bs x
noncomputable def ptB (bs : List Str) (vs : List Nat) (x : Str) (v : Nat) : List Nat := vs.set (ixB bs x) v
theorem ptB_len {bs : List Str} {vs : List Nat} {x : Str} {v : Nat} : (ptB bs vs x v).length = vs.length := by simp [ptB]
/-- a state: numbers of W bits -/
noncomputable def StW (W : Nat) (bs : List Str) (vs : List Nat) : Prop := vs.length = bs.length ∧ ∀ v ∈ vs, v < 2 ^ W
theorem StW.put {W : Nat} {bs : List Str} {vs : List Nat} (h : StW W bs vs) {x : Str} {v : Nat} (hv : v < 2 ^ W) : StW W bs (ptB bs vs x v) := by
  refine ⟨by rw [ptB_len]; exact h.1, fun u hu => ?_⟩
  rcases List.mem_or_eq_of_mem_set hu with z | z
  · exact h.2 u z
  · rw [z]; exact hv
-- rows that do nothing: rounds of none, or of such rows
end L3
namespace L3
open PySem PySem.Spec PyProof.Rows L2 Rw
end L3
namespace L3
open PySem PySem.Spec PyProof.Rows L2 Rw
end L3
namespace L3
open PySem PySem.Spec PyProof.Rows L2 Rw
theorem flat_at : ∀ {ws : List Str} {k c : Nat}, (∀ w ∈ ws, w.length = 1) → ws[k]? = some ⟨#[c]⟩ → ((ws.map fun w => w.cps.toList).flatten)[k]? = some c
  | [], k, c, _, h => by simp at h
  | w :: ws, 0, c, _, h => by
    have e : w = ⟨#[c]⟩ := by simpa using h
    subst e
    rfl
  | w :: ws, k + 1, c, hw, h => by
    have h1 : w.cps.toList.length = 1 := by have := hw w List.mem_cons_self; simpa [Str.length] using this
    rw [List.map_cons, List.flatten_cons, List.getElem?_append_right (by rw [h1]; omega), h1]
    exact flat_at (fun v hv => hw v (List.mem_cons_of_mem _ hv)) (by simpa using h)
theorem jn_list : ∀ ws : List Str, (jn Str.empty ws).cps.toList = (ws.map fun w => w.cps.toList).flatten := by
  have key : ∀ (ws : List Str) (acc : Array Nat), (ws.foldl (fun acc p => acc ++ Str.empty.cps ++ p.cps) acc).toList = acc.toList ++ (ws.map fun w => w.cps.toList).flatten := by
    intro ws
    induction ws with
    | nil => intro acc; simp
    | cons w ws ih =>
      intro acc
      rw [List.foldl_cons, ih, List.map_cons, List.flatten_cons]
      have : Str.empty.cps = #[] := rfl
      rw [this]
      simp
  intro ws
  cases ws with
  | nil => rfl
  | cons w ws => exact key ws w.cps
theorem jn_at {ws : List Str} {k c : Nat} (hw : ∀ w ∈ ws, w.length = 1) (h : ws[k]? = some ⟨#[c]⟩) : (jn Str.empty ws).cps[k]? = some c := by
  rw [← Array.getElem?_toList, jn_list]
  exact flat_at hw h
theorem app_at {a b : Str} {k c : Nat} (h : a.cps[k]? = some c) : (a ++ b).cps[k]? = some c := by
  show (a.cps ++ b.cps)[k]? = some c
  have hk : k < a.cps.size := by
    rcases Nat.lt_or_ge k a.cps.size with z | z
    · exact z
    · rw [Array.getElem?_eq_none z] at h; cases h
  rw [Array.getElem?_append_left hk]
  exact h
theorem abc_at {x : Int} (h1 : 0 ≤ x) (h2 : x < 26) : atI (Str.ofString "abcdefghijklmnopqrstuvwxyz").cps.toList x = some (97 + x.toNat) := by
  obtain ⟨n, rfl⟩ := Int.eq_ofNat_of_zero_le h1
  have hn : n < 26 := by omega
  have key : ∀ n : Fin 26, (Str.ofString "abcdefghijklmnopqrstuvwxyz").cps.toList[n.val]? = some (97 + n.val) := by decide
  have e := atI_int (xs := (Str.ofString "abcdefghijklmnopqrstuvwxyz").cps.toList) (i := (n : Int)) h1 (by exact h2)
  rw [e, ← List.getElem?_eq_getElem]
  exact key ⟨n, hn⟩
theorem nodup_at {bs : List Str} {sp : Nat} {fi : Int} (hl : bs.length ≤ 6) (h : ∀ (t : Nat) (b : Str), bs[t]? = some b → b.cps[sp]? = some (97 + ((fi + 5 * (t : Int)) % 26).toNat)) : bs.Nodup := by
  rw [List.Nodup, List.pairwise_iff_getElem]
  intro i j hi hj hij e
  have h1 := h i bs[i] (List.getElem?_eq_getElem hi)
  have h2 := h j bs[j] (List.getElem?_eq_getElem hj)
  rw [e, h2] at h1
  have := Option.some.inj h1
  omega
theorem nodup_set {bs : List Str} {w : Str} (k : Nat) (h : bs.Nodup) (hw : w ∉ bs) : (bs.set k w).Nodup := by
  rw [List.Nodup, List.pairwise_iff_getElem] at h ⊢
  intro i j hi hj hij e
  rw [List.length_set] at hi hj
  have hm : ∀ {t : Nat} (ht : t < bs.length), bs[t] ≠ w := fun {t} ht z => hw (z ▸ List.getElem_mem ht)
  rw [List.getElem_set, List.getElem_set] at e
  split at e
  · split at e
    · omega
    · exact hm hj e.symm
  · split at e
    · exact hm hi e
    · exact h i j hi hj hij e
end L3

namespace L2
open PySem PySem.Spec PyProof.Rows PySem.SeqAt
open AutoSeq1 (wpAny_loadPart')
open PySem.MeetsSeq PySem.MeetsSeq2 PySem.MeetsSeq3
section
variable {X : Cx}
end
end L2
namespace L3
open PySem PySem.Spec PyProof.Rows L2
section
variable {X : Cx}
end
end L3

namespace L3
open PySem PySem.Spec PyProof.Rows L2 Rw
/-! numbers by their bits -/
noncomputable def bt (x k : Nat) : Nat := x / 2 ^ k % 2
end L3
namespace L3
open PySem PySem.Spec PyProof.Rows L2 Rw
end L3
namespace L3
open PySem PySem.Spec PyProof.Rows L2 Rw
end L3
namespace L3
open PySem PySem.Spec PyProof.Rows L2 Rw
end L3
namespace L3
open PySem PySem.Spec PyProof.Rows L2 Rw
end L3
namespace L3
open PySem PySem.Spec PyProof.Rows L2 Rw
end L3
namespace L3
open PySem PySem.Spec PyProof.Rows L2 Rw
end L3


namespace L3
open PySem PySem.Spec PyProof.Rows L2 Rw
/-! the states between pieces -/
end L3















namespace L2
open PySem PySem.Spec PyProof.Rows
/-- the sgns of a text, walked -/
noncomputable def Its (x : Str) : It := ⟨fun i _ => i < x.cps.size, fun i H v H' => H' = H ∧ ∃ c, x.cps[i]? = some c ∧ v = .str ⟨#[c]⟩, fun i _ => x.cps.size ≤ i⟩
theorem turn_strA {P : Program} {w : World} {K : PySem.W.Frag} {tg : Expr} (it : Addr) (x : Str) (t : Tok) : Turn P w K tg (Its x) [it] it (fun i h => h.IsStrIter it "str_ascii_iterator" x t i) where
  mem := by simp
  obj := fun i h st b hb => by
    have e : b = it := by simpa using hb
    subst e
    obtain ⟨o, e, c, d⟩ := st
    exact ⟨o, e, fun v z => by rw [d] at z; cases z⟩
  keep := fun i h h' st k => let ⟨o, e, r⟩ := st; ⟨o, k it (by simp) o e, r⟩
  item := by
    intro X hP hw hK hc i pins s σ H E I hf st hg
    subst hP hw hK
    obtain ⟨f0, f1, f2, f3, f4, f5⟩ := hf it (by simp)
    refine (Walks.strAscii (prog := X.prog) (w := X.w) (I.ok.hd hc) it x t).item i s _ _ hg st fun v h' tk hv st' kk => ?_
    obtain ⟨c, u, hc', rfl⟩ := hv
    have I1 : Inv X pins σ H { s with heap := h', toks := tk } := I.turned (fun b o hb e => kk b o (by simpa using hb) e) f0 f1 f3 f4 f5
    obtain ⟨o, e, cc, d⟩ := id st'
    exact ⟨_, rfl, go_of (s := { s with heap := h', toks := tk }) e cc d (by decide) ⟨.str ⟨#[c]⟩, H, I1, ⟨u, rfl⟩, ⟨rfl, c, hc', rfl⟩, st', fun b hb => (hf b hb).1⟩⟩
  done := by
    intro X hP hw hK hc i pins s σ H E I hf st hg
    subst hP hw hK
    obtain ⟨f0, f1, f2, f3, f4, f5⟩ := hf it (by simp)
    have hg : x.cps.size ≤ i := hg
    exact wpAny_pyNext_ascii_end (I.ok.hd hc) st (by simpa using hg) fun h' eb => ⟨rfl, I.turned (t' := s.toks) (fun b o hb e => eb b o hb e) f0 f1 f3 f4 f5⟩
  self := fun _ _ _ _ _ st h => wpAny_pyIter_striter_ascii st h
theorem turn_strW {P : Program} {w : World} {K : PySem.W.Frag} {tg : Expr} (it : Addr) (x : Str) (t : Tok) : Turn P w K tg (Its x) [it] it (fun i h => h.IsStrIter it "str_iterator" x t i) where
  mem := by simp
  obj := fun i h st b hb => by
    have e : b = it := by simpa using hb
    subst e
    obtain ⟨o, e, c, d⟩ := st
    exact ⟨o, e, fun v z => by rw [d] at z; cases z⟩
  keep := fun i h h' st k => let ⟨o, e, r⟩ := st; ⟨o, k it (by simp) o e, r⟩
  item := by
    intro X hP hw hK hc i pins s σ H E I hf st hg
    subst hP hw hK
    obtain ⟨f0, f1, f2, f3, f4, f5⟩ := hf it (by simp)
    refine (Walks.strWide (prog := X.prog) (w := X.w) (I.ok.hd hc) it x t).item i s _ _ hg st fun v h' tk hv st' kk => ?_
    obtain ⟨c, u, hc', rfl⟩ := hv
    have I1 : Inv X pins σ H { s with heap := h', toks := tk } := I.turned (fun b o hb e => kk b o (by simpa using hb) e) f0 f1 f3 f4 f5
    obtain ⟨o, e, cc, d⟩ := id st'
    exact ⟨_, rfl, go_of (s := { s with heap := h', toks := tk }) e cc d (by decide) ⟨.str ⟨#[c]⟩, H, I1, ⟨u, rfl⟩, ⟨rfl, c, hc', rfl⟩, st', fun b hb => (hf b hb).1⟩⟩
  done := by
    intro X hP hw hK hc i pins s σ H E I hf st hg
    subst hP hw hK
    obtain ⟨f0, f1, f2, f3, f4, f5⟩ := hf it (by simp)
    have hg : x.cps.size ≤ i := hg
    exact wpAny_pyNext_wide_end (I.ok.hd hc) st (by simpa using hg) fun h' eb => ⟨rfl, I.turned (t' := s.toks) (fun b o hb e => eb b o hb e) f0 f1 f3 f4 f5⟩
  self := fun _ _ _ _ _ st h => wpAny_pyIter_striter_wide st h
section
variable {X : Cx} {tg : Expr}
noncomputable def iStr (tl : TE) : TI := fun σ H R => tl σ H fun v H1 => ∃ x, v = .str x ∧ R (Its x) H1
theorem pi_str {l : Expr} {tl : TE} (hl : PE X l tl) : PI X tg l (iStr tl) := by
  intro pins s σ H R I h
  (refine thn (hl pins s σ H _ I h) ?_; rintro v s1 ⟨y, H1, I1, r1, q1⟩)
  obtain ⟨x, rfl, q⟩ := q1
  obtain ⟨t, rfl⟩ := r1
  have fp : ∀ b ∈ [s1.heap.objs.size], FpOk X pins H1 b := fun b hb => by
    have e : b = s1.heap.objs.size := by simpa using hb
    subst e
    exact I1.fpOk (Nat.le_refl _) (I1.hok.fresh (Nat.le_refl _))
  cases ha : x.cps.all (· < 128)
  · exact wpAny_pyIter_wide ha ⟨s1.heap.objs.size, [s1.heap.objs.size], _, _, H1, rfl, I1.kept (t' := s1.toks) fun b o e => Heap.get?_push_of_some _ e, turn_strW _ x t, ⟨_, Heap.get?_push_size _ rfl, rfl, rfl⟩, fp, q⟩
  · exact wpAny_pyIter_ascii ha ⟨s1.heap.objs.size, [s1.heap.objs.size], _, _, H1, rfl, I1.kept (t' := s1.toks) fun b o e => Heap.get?_push_of_some _ e, turn_strA _ x t, ⟨_, Heap.get?_push_size _ rfl, rfl, rfl⟩, fp, q⟩
theorem op_le_str : OpR X (compareOp .LtE) (fun x y H Q => ∃ i j, x = .str i ∧ y = .str j ∧ Q (.bl (!decide (j.cps.toList < i.cps.toList))) H) := by
  intro pins s σ H x y v u Q I rx ry h
  obtain ⟨i, j, rfl, rfl, q⟩ := h
  obtain ⟨t, rfl⟩ := rx
  obtain ⟨t', rfl⟩ := ry
  exact PySem.P.le_str (fin_bl I q rfl)
/-- a text's part: no longer than the text -/
theorem sl_str : SlR X (fun x _ _ H Q => ∃ y : Str, x = .str y ∧ y.length ≤ sizeLine ∧ ∀ z : Str, z.length ≤ y.length → Q (.str z) H) := by
  intro pins s σ H x v vl vu lo hi sl Q I rx hs pl pu h
  obtain ⟨y, rfl, hy, q⟩ := h
  obtain ⟨t, rfl⟩ := rx
  refine ⟨"str", _, PySem.F.slot_str_getitem.lookup, typeIs_str _ _ _, ?_⟩
  obtain ⟨l, rfl⟩ : ∃ l, vl = partValue l := by cases pl with
    | none => exact ⟨none, rfl⟩
    | int i t => exact ⟨some (i, t), rfl⟩
  obtain ⟨u, rfl⟩ : ∃ l, vu = partValue l := by cases pu with
    | none => exact ⟨none, rfl⟩
    | int i t => exact ⟨some (i, t), rfl⟩
  refine wpAny_getItem_str_slice (l := l) (u := u) (st := none) hs rfl ?_
  unfold sliceMade
  split
  · exact ⟨.str y, H, I, ⟨t, rfl⟩, q y (Nat.le_refl _)⟩
  · have hl : (⟨((slicePicked y l u none).filterMap (y.cps[·]?)).toArray⟩ : Str).length ≤ y.length := by
      show (List.filterMap _ _).toArray.size ≤ _
      rw [List.size_toArray]
      exact Nat.le_trans (List.length_filterMap_le _ _) (sliceIndices_le _ _ _)
    exact ⟨Nat.le_trans hl hy, .str _, H, I.tok _, ⟨_, rfl⟩, q _ hl⟩
/-- s.split(t), t stands in s -/
noncomputable def partsOf (s t : Str) : List Str := Builtin.Str.partsBetween s (Builtin.Str.occurrences s t 0 s.length (s.length + 1)) t.length
theorem strsFrom_vals : ∀ (ws : List Str) (n : Nat), Vals (ws.map V.str) (strsFrom n ws)
  | [], _ => .nil
  | w :: ws, n => .cons ⟨n, rfl⟩ (strsFrom_vals ws (n + 1))
/-- k in d, d a dict of texts and ints -/
theorem op_inK (hu : X.A.units + 1 < cLine) : OpR X (compareOp .In) (fun x y H Q => ∃ a kvs k, x = kV k ∧ y = .ref a ∧ H a = some (.dK kvs) ∧ Q (.bl (valV kvs k).isSome) H) := by
  intro pins s σ H x y v u Q I rx ry h
  obtain ⟨a, kvs, k, rfl, rfl, ha, q⟩ := h
  obtain rfl : u = Value.ref a := ry
  exact d_in hu I (DGet.k (k := k) ha) rx fun s' I' => ⟨.bl _, H, I', rfl, q⟩
end
/-- a tuple of texts that the module keeps -/
noncomputable def ConT (K : PySem.W.Frag) (mg : Str → Option Value) (x : Str) (ws : List Str) : Prop := ∃ (a : Addr) (o : Obj) (its : Array Value) (n : Nat), mg x = some (.ref a) ∧ K.lookup a = some o ∧ o.cls = .type "tuple" ∧ o.data = .seq its n ∧ its.size ≤ sizeLine ∧ Vals (ws.map V.str) its.toList ∧ o.dict = none
end L2
namespace L3
open PySem PySem.Spec PyProof.Rows L2
section
variable {X : Cx} {K : PySem.W.Frag} {H : Hp} {o e tg : Expr} {es : List Expr} {te to : TE3} {ts : TA3} {apos cpos pos : Pos} {x : Str}
@[reducible] def sgns (x : Str) : List D := x.cps.toList.map fun c => .str ⟨#[c]⟩
theorem itrel_str {H0 : Hp} {x : Str} : ItRel K H0 ⟨sgns x, fun _ => True⟩ (Its x) where
  go := fun i G H l c _ hi => by
    have hi : i < (sgns x).length := hi
    show i < x.cps.size
    simpa [sgns] using hi
  stop := fun i G H l c _ hi => by
    have hi : (sgns x).length ≤ i := hi
    show x.cps.size ≤ i
    simpa [sgns] using hi
  yld := fun i G H v H' l c _ hi y => by
    obtain ⟨rfl, n, hn, rfl⟩ := y
    refine ⟨c, Le.refl _, .str ⟨#[n]⟩, ?_, by rw [RelD]⟩
    show (sgns x)[i]? = _
    unfold sgns
    rw [List.getElem?_map, Array.getElem?_toList, hn]; rfl
noncomputable def wStr (te : TE3) : TI3 := fun σ G r => te σ G fun d G1 => ∃ x, d = .str x ∧ r ⟨sgns x, fun _ => True⟩ G1
theorem i_str (h : E3 X e te) : I3 X tg e (wStr te) := weakI (pi_str h) fun σ H R hh => by
  obtain ⟨σd, G, q, rs, c, t, f⟩ := hh
  refine ⟨σd, G, _, rs, c, t, fun d G1 v H1 r1 c1 l1 t1 => ?_⟩
  obtain ⟨y, rfl, t2⟩ := t1
  exact ⟨y, r1.str_inv, f _ _ _ _ itrel_str c1 l1 t2⟩
@[reducible] def xLeS : R3 := fun x y G q => ∃ i j : Str, x = .str i ∧ y = .str j ∧ q (.bl (!decide (j.cps.toList < i.cps.toList))) G
theorem x_leS : Op3 X (compareOp .LtE) xLeS := weakOp op_le_str fun x y H Q ⟨d, e, G, q, r1, r2, c, ⟨i, j, e1, e2, t⟩, f⟩ => by
  subst e1 e2
  exact ⟨i, j, r1.str_inv, r2.str_inv, f _ _ _ _ RelD.blI c (Le.refl H) t⟩
@[reducible] def xInS : R3 := fun x y G q => ∃ (c : Nat) (j : Str), x = .str ⟨#[c]⟩ ∧ y = .str j ∧ q (.bl (decide (c ∈ j.cps.toList))) G
theorem x_inS : Op3 X (compareOp .In) xInS := weakOp op_in_str fun x y H Q ⟨d, e, G, q, r1, r2, c, ⟨i, j, e1, e2, t⟩, f⟩ => by
  subst e1 e2
  exact ⟨_, j, r1.str_inv, r2.str_inv, by rw [StrLaws.found_one]; exact f _ _ _ _ RelD.blI c (Le.refl H) t⟩
noncomputable def xSlS : RS3 := fun x _ _ G q => ∃ y : Str, x = .str y ∧ y.length ≤ sizeLine ∧ ∀ z : Str, z.length ≤ y.length → q (.str z) G
theorem x_slS : SlR X (lowRS X.K xSlS) := weakSl sl_str <| by
  rintro x lo hi H Q ⟨d, G, q, r1, c, ⟨y, rfl, hy, t⟩, f⟩
  exact ⟨y, r1.str_inv, hy, fun z hz => f _ _ _ _ (by rw [RelD]) c (Le.refl H) (t z hz)⟩
theorem relS : ∀ (ws : List Str), RelDs K H (ws.map .str) (ws.map V.str)
  | [] => .nil
  | w :: ws => .cons (by rw [RelD]) (relS ws)
noncomputable def dNewK : TE3 := fun _ G q => ∀ p, G p = none → q (.ref p) (gup G p (.dic []))
theorem e_dnewK {pos : Pos} : E3 X (.Dict [] [] pos) dNewK := weakE pe_dnewK fun σ H Q h => by
  obtain ⟨σd, G, q, rs, c, t, f⟩ := h
  exact fun p hp => f (.ref p) _ (.ref p) _ (by rw [RelD]) (c.put (o := .dic []) (Le.fresh hp) ⟨[], upd_same, rfl, .nil⟩) (Le.fresh hp) (t p (c.fresh hp))
@[reducible] def xInK : R3 := fun x y G q => ∃ (k : Key) (kvs : List (Key × D)) (a : Addr), x = kD k ∧ y = .ref a ∧ G a = some (.dic kvs) ∧ q (.bl (valK kvs k).isSome) G
theorem x_inK {k : Nat} (hr : Room k X.A) : Op3 X (compareOp .In) xInK := weakOp (op_inK (hu_of hr)) fun x y H Q ⟨d, e, G, q, r1, r2, c, ⟨k, kvs, a, e1, e2, hg, t⟩, f⟩ => by
  subst e1 e2
  cases r2.ref_inv
  obtain rfl := kD_inv r1
  obtain ⟨ys, e, rp⟩ := c a _ hg
  refine ⟨a, ys, k, rfl, rfl, e, ?_⟩
  have es : (valK kvs k).isSome = (valV ys k).isSome := by
    rcases valK_rel (k := k) rp with ⟨z1, z2⟩ | ⟨d', w, z1, z2, _⟩ <;> rw [z1, z2] <;> rfl
  rw [es] at t
  exact f _ _ _ _ RelD.blI c (Le.refl H) t
theorem e_constS {s : Str} (h : ∃ t, X.mg x = some (.str s t)) (hg : Gl X x := by rfl) (hdb : (x == ("__debug__" : Str)) = false := by decide) : E3 X (.Name x pos) (dC (.str s)) := by
  obtain ⟨t, h⟩ := h
  exact e_glob hg h (v := .str s) ⟨t, rfl⟩ (fun _ => by rw [RelD]) hdb
theorem e_constT {ws : List Str} (h : ConT X.K X.mg x ws) (hg : Gl X x := by rfl) (hdb : (x == ("__debug__" : Str)) = false := by decide) : E3 X (.Name x pos) (dC (.tup (ws.map .str))) := by
  obtain ⟨a, o, its, n, h1, h2, h3, h4, h5, h6, h7⟩ := h
  exact e_glob hg h1 (v := .ref a) rfl (fun H => by rw [RelD]; exact ⟨a, ws.map V.str, rfl, .inr ⟨o, its, n, h2, h3, h4, h5, h6, h7⟩, relS ws⟩) hdb
end
end L3

namespace L2
open PySem PySem.Spec PyProof.Rows
set_option maxHeartbeats 4000000
section
variable {X : Cx}
/-- s.split(t) -/
theorem mt_splitA : MtR X "str.split" (fun x vs H Q => ∃ s t : Str, x = .str s ∧ vs = [.str t] ∧ (t.length == 0) = false ∧ s.length ≤ sizeLine ∧ (Txt.split s t).length ≤ sizeLine ∧ ∀ p, H p = none → Q (.ref p) (upd H p (.lst ((Txt.split s t).map V.str)))) := by
  intro pins s σ H x vs v us Q I rx rv h
  obtain ⟨y, z, rfl, rfl, h2, h4, h5, q⟩ := h
  obtain ⟨t, rfl⟩ := rx
  obtain ⟨u, rfl, ru⟩ := rv.one
  obtain ⟨t', rfl⟩ := ru
  have one : Txt.split y z = [y] → EP X pins σ Q (.ref s.heap.objs.size) { s with heap := s.heap.push { cls := .type "list", data := .seq [Value.str y t].toArray } } := fun e => by
    rw [e] at q
    refine ⟨.ref s.heap.objs.size, _, I.laid (a := s.heap.objs.size) (o := .lst [V.str y]) (t' := s.toks) (fun b ob q => Heap.get?_push_of_some _ q) (Nat.le_refl _) ?_, rfl, q _ (I.hok.fresh (Nat.le_refl _))⟩
    exact ⟨by show 1 ≤ sizeLine; decide, _, 0, .cons ⟨t, rfl⟩ .nil, Heap.get?_push_size _ rfl⟩
  cases h1 : (decide (y.length < z.length) || decide (Builtin.Str.strKind y < Builtin.Str.strKind z)) with
  | true => exact call_meets PySem.F.slot_str_split (typeIs_str _ _ _) PySem.F.entry_str_split (PySem.F.args_str_split_2 _ _) (meets_str_split_cannot_occur y z t t' h1) (one (if_pos h1))
  | false =>
    cases h3 : (Builtin.Str.occurrences y z 0 y.length (y.length + 1)).isEmpty with
    | true => exact call_meets PySem.F.slot_str_split (typeIs_str _ _ _) PySem.F.entry_str_split (PySem.F.args_str_split_2 _ _) (meets_str_split_not_found y z t t' h1 h2 h3) (one ((if_neg (ne_true_of_eq_false h1)).trans (if_pos h3)))
    | false =>
      have e : Txt.split y z = partsOf y z := (if_neg (ne_true_of_eq_false h1)).trans (if_neg (ne_true_of_eq_false h3))
      rw [e] at h5 q
      refine call_meets PySem.F.slot_str_split (typeIs_str _ _ _) PySem.F.entry_str_split (PySem.F.args_str_split_2 _ _) (meets_str_split_sep y z t t' h1 h2 h3 h4 h5) ?_
      refine ⟨.ref s.heap.objs.size, _, I.laid (a := s.heap.objs.size) (o := .lst ((partsOf y z).map V.str)) (fun b ob q => Heap.get?_push_of_some _ q) (Nat.le_refl _) ?_, rfl, q _ (I.hok.fresh (Nat.le_refl _))⟩
      exact ⟨by rw [List.length_map]; exact h5, _, 0, strsFrom_vals _ _, Heap.get?_push_size _ rfl⟩
end
end L2
namespace L3
open PySem PySem.Spec PyProof.Rows L2
set_option maxHeartbeats 4000000
section
variable {X : Cx} {K : PySem.W.Frag} {H : Hp} {o e tg : Expr} {es : List Expr} {te to : TE3} {ts : TA3} {apos cpos pos : Pos} {x : Str}
@[reducible] def mSplitA : M3 := fun x ds G q => ∃ s t : Str, x = .str s ∧ ds = [.str t] ∧ (t.length == 0) = false ∧ s.length ≤ sizeLine ∧ (Txt.split s t).length ≤ sizeLine ∧ ∀ p, G p = none → q (.ref p) (gup G p (.lst ((Txt.split s t).map .str)))
theorem e_splitA (ho : E3 X o to) (ha : A3 X (e :: es) ts) (hbase : attributeBase o "split" X.env (eval o X.env) = eval o X.env := by rfl)
    (hfew : ((backTo cpos (starEach (e :: es) X.env)).all (fun x => !x.1) && (backToKw cpos (keywordEach [] X.env)).all (fun x => x.1.isSome)
      && decide ((e :: es).length + ([] : List Keyword).length + (if ([] : List Keyword).isEmpty then 0 else 1) < 30)) = true := by rfl)
    (hline : (apos.endLine == cpos.line) = true := by rfl) (hs : starEach (e :: es) X.env = (false, eval e X.env) :: starEach es X.env := by rfl) (hplain : (backTo cpos (starEach es X.env)).any (·.1) = false := by rfl) :
    E3 X (.Call (.Attribute o "split" apos) (e :: es) [] cpos) (dBM "str" mSplitA to ts) :=
  weakE (pe_bm PySem.F.plainAttrs_str PySem.F.slot_str_split PySem.F.type_str_split (weakMt (r' := lowM X.K mSplitA) mt_splitA <| by
    rintro x xs H Q ⟨d, ds, G, q, r1, r2, c, ⟨s, t, rfl, rfl, h1, h2, h3, tt⟩, f⟩
    obtain ⟨u, rfl, ru⟩ := r2.one
    cases ru.str_inv
    exact ⟨s, t, r1.str_inv, rfl, h1, h2, h3, fun p hp => f _ _ _ _ RelD.refI (c.lstNew hp (relS _)) (Le.fresh hp) (tt p (c.fresh hp))⟩) ho ha hbase hfew hline hs hplain) fun _ _ _ => low_bm (ty_str _)
end
end L3

namespace L3
open PySem PySem.Spec PyProof.Rows L2
set_option maxHeartbeats 4000000
/-! ### texts of plans -/
theorem str_len (x : Str) : x.length = x.cps.toList.length := by simp [Str.length]
theorem cps_app (a b : Str) : (a ++ b).cps.toList = a.cps.toList ++ b.cps.toList := by
  show (a.cps ++ b.cps).toList = _
  rw [Array.toList_append]
theorem str_ext {a b : Str} (h : a.cps.toList = b.cps.toList) : a = b := Str.ext' (Array.toList_inj.mp h)
/-! ### joined and split again -/
theorem join_cps (c : Nat) : ∀ (w : Str) (v : Str) (r : List Str), (Str.join ⟨#[c]⟩ (w :: v :: r)).cps.toList = w.cps.toList ++ c :: (Str.join ⟨#[c]⟩ (v :: r)).cps.toList := fun w v r => by
  show ((w ++ (⟨#[c]⟩ : Str)) ++ Str.join ⟨#[c]⟩ (v :: r)).cps.toList = _
  rw [cps_app, cps_app, List.append_assoc]; rfl
theorem cut_same {c : Nat} : ∀ {a a' r r' : List Nat}, c ∉ a → c ∉ a' → a ++ c :: r = a' ++ c :: r' → a = a' ∧ r = r'
  | [], [], r, r', _, _, e => by cases e; exact ⟨rfl, rfl⟩
  | [], x :: a', r, r', _, h, e => by
    have e : c :: r = x :: (a' ++ c :: r') := e
    cases e
    exact absurd List.mem_cons_self h
  | x :: a, [], r, r', h, _, e => by
    have e : x :: (a ++ c :: r) = c :: r' := e
    cases e
    exact absurd List.mem_cons_self h
  | x :: a, y :: a', r, r', h, h', e => by
    have e : x :: (a ++ c :: r) = y :: (a' ++ c :: r') := e
    injection e with e1 e2
    obtain ⟨z1, z2⟩ := cut_same (fun z => h (List.mem_cons_of_mem _ z)) (fun z => h' (List.mem_cons_of_mem _ z)) e2
    exact ⟨by rw [e1, z1], z2⟩
theorem join_same {c : Nat} : ∀ {ws vs : List Str}, ws ≠ [] → vs ≠ [] → (∀ w ∈ ws, c ∉ w.cps.toList) → (∀ w ∈ vs, c ∉ w.cps.toList) → Str.join ⟨#[c]⟩ ws = Str.join ⟨#[c]⟩ vs → ws = vs
  | [], _, h, _, _, _, _ => absurd rfl h
  | _, [], _, h, _, _, _ => absurd rfl h
  | [w], [v], _, _, _, _, e => by
    have e : w = v := e
    rw [e]
  | [w], v :: v' :: r, _, _, h, _, e => by
    have e1 := congrArg (fun x : Str => x.cps.toList) e
    rw [join_cps] at e1
    have e1 : w.cps.toList = v.cps.toList ++ c :: (Str.join ⟨#[c]⟩ (v' :: r)).cps.toList := e1
    exact absurd (by rw [e1]; simp) (h w List.mem_cons_self)
  | w :: w' :: r, [v], _, _, _, h, e => by
    have e1 := congrArg (fun x : Str => x.cps.toList) e
    rw [join_cps] at e1
    have e1 : w.cps.toList ++ c :: (Str.join ⟨#[c]⟩ (w' :: r)).cps.toList = v.cps.toList := e1
    exact absurd (by rw [← e1]; simp) (h v List.mem_cons_self)
  | w :: w' :: r, v :: v' :: r', _, _, h, h', e => by
    have e1 := congrArg (fun x : Str => x.cps.toList) e
    rw [join_cps, join_cps] at e1
    obtain ⟨z1, z2⟩ := cut_same (h w List.mem_cons_self) (h' v List.mem_cons_self) e1
    rw [str_ext z1, join_same (ws := w' :: r) (vs := v' :: r') (by simp) (by simp) (fun x hx => h x (List.mem_cons_of_mem _ hx)) (fun x hx => h' x (List.mem_cons_of_mem _ hx)) (str_ext z2)]
theorem split_ne (x y : Str) : Txt.split x y ≠ [] := by
  unfold Txt.split
  split
  · simp
  · split
    · simp
    · intro e
      have := congrArg List.length e
      rw [length_partsBetween] at this
      simp at this
theorem blank : (" " : Str) = ⟨#[32]⟩ := by decide
theorem split_jn {ws : List Str} (h0 : ws ≠ []) (h : ∀ w ∈ ws, 32 ∉ w.cps.toList) : Txt.split (jn " " ws) " " = ws := by
  have e : jn " " ws = Str.join " " ws := StrLaws.glued_eq_join _ _
  refine join_same (c := 32) (split_ne _ _) h0 ?_ h ?_
  · rw [blank]
    exact StrLaws.split_free _ 32
  · rw [← blank, StrLaws.join_split, e]
end L3
namespace L3
open PySem PySem.Spec PyProof.Rows L2
theorem lenS {z : Str} {G : Gp} {q : DK} : xLen [.str z] G q = (z.length ≤ sizeLine ∧ q (.int z.length) G) := rfl
theorem ixS {z : Str} {i : Int} {G : Gp} {q : DK} : xIx (.str z) (.int i) G q = (z.length ≤ sizeLine ∧ (match atI z.cps.toList i with | some c => q (.str ⟨#[c]⟩) G | none => False)) := rfl
theorem addS {a b : Str} {G : Gp} {q : DK} : xAdd (.str a) (.str b) G q = (a.length + b.length ≤ sizeLine ∧ q (.str (a ++ b)) G) := rfl
end L3
namespace L3
open PySem PySem.Spec PyProof.Rows L2
end L3

namespace L3
open PySem PySem.Spec PyProof.Rows L2 Rw
set_option maxHeartbeats 4000000
/-! ### names -/
noncomputable def WDS : List Str := ["wide", "boxes", "choose", "else", "end", "times"]
noncomputable def ltr (x : Str) : Bool := x.cps.toList.all fun c => decide (97 ≤ c) && decide (c ≤ 122)
noncomputable def nmB (x : Str) : Bool := decide (1 ≤ x.length) && decide (x.length ≤ 8) && !decide (x ∈ WDS) && ltr x
theorem nm_len {x : Str} (h : nmB x = true) : x.length ≤ 20 := by
  unfold nmB at h
  simp only [Bool.and_eq_true, decide_eq_true_eq] at h
  omega
theorem nm_of {x : Str} (h1 : 1 ≤ x.length) (h2 : x.length ≤ 8) (h3 : x ∉ WDS) (h4 : ltr x = true) : nmB x = true := by
  unfold nmB
  rw [decide_eq_true h1, decide_eq_true h2, decide_eq_false h3, h4]; rfl
theorem nm_q {x : Str} (h : x ∈ WDS) : nmB (x ++ "q") = true := by
  have : ∀ y ∈ WDS, nmB (y ++ "q") = true := by decide +kernel
  exact this x h
theorem ltr_app (a b : Str) : ltr (a ++ b) = (ltr a && ltr b) := by
  unfold ltr
  rw [cps_app, List.all_append]
theorem ltr_one {c : Nat} (h : 97 ≤ c ∧ c ≤ 122) : ltr ⟨#[c]⟩ = true := by
  unfold ltr
  simp [h.1, h.2]
theorem ltr_jn : ∀ ws : List Str, (∀ w ∈ ws, ltr w = true) → ltr (jn Str.empty ws) = true := by
  intro ws h
  have e : jn Str.empty ws = Str.join Str.empty ws := StrLaws.glued_eq_join _ _
  rw [e]
  clear e
  induction ws with
  | nil => rfl
  | cons w ws ih =>
    cases ws with
    | nil => exact h w List.mem_cons_self
    | cons v r =>
      show ltr (w ++ Str.empty ++ Str.join Str.empty (v :: r)) = true
      rw [ltr_app, ltr_app, h w List.mem_cons_self, ih fun x hx => h x (List.mem_cons_of_mem _ hx)]; rfl
theorem letters {c : Nat} : decide (c ∈ ("abcdefghijklmnopqrstuvwxyz" : Str).cps.toList) = (decide (97 ≤ c) && decide (c ≤ 122)) := by
  have e : ("abcdefghijklmnopqrstuvwxyz" : Str).cps.toList = List.range' 97 26 := by decide +kernel
  rw [e, Bool.eq_iff_iff, Bool.and_eq_true, decide_eq_true_iff, decide_eq_true_iff, decide_eq_true_iff, List.mem_range'_1]
  omega
theorem strsOf_map : ∀ l : List Str, strsOf (l.map D.str) = some l
  | [] => rfl
  | w :: l => by show (strsOf (l.map D.str)).map (w :: ·) = _; rw [strsOf_map l]; rfl
theorem xin_strs {neg : Bool} {w : Str} {ws : List Str} {G : Gp} {q : DK} (k : q (.bl (if neg then !decide (w ∈ ws) else decide (w ∈ ws))) G) : xInB neg (.str w) (.tup (ws.map .str)) G q := by
  unfold xInB
  simp only [strsOf_map]
  exact k
theorem le_a {c : Nat} : (!decide (([c] : List Nat) < ("a" : Str).cps.toList)) = decide (97 ≤ c) := by
  rw [show ("a" : Str).cps.toList = [97] by decide, Bool.eq_iff_iff, Bool.not_eq_true', decide_eq_false_iff_not, decide_eq_true_iff]
  simp [List.cons_lt_cons_iff]
theorem le_z {c : Nat} : (!decide (("z" : Str).cps.toList < ([c] : List Nat))) = decide (c ≤ 122) := by
  rw [show ("z" : Str).cps.toList = [122] by decide, Bool.eq_iff_iff, Bool.not_eq_true', decide_eq_false_iff_not, decide_eq_true_iff]
  simp [List.cons_lt_cons_iff]
theorem words_split : Txt.split "wide boxes choose else end times" " " = WDS := by
  have e : ("wide boxes choose else end times" : Str) = jn " " WDS := by decide +kernel
  rw [e]
  exact split_jn (by decide) (by decide)
theorem cmp_lnil {α : Type} {G : Gp} {p e : Addr} {xs : List α} {F : α → D} {Q : Bool → Prop} [DecidableEq α] (hF : ∀ k, ∃ s, snap G 3 (F k) = some s) (ko : seqOf (G p) = some (xs.map F)) (ke : seqOf (G e) = some []) (h : Q (decide (xs = []))) :
    ∃ n sd se r, n ≤ 40 ∧ snap G n (.ref p) = some sd ∧ snap G n (.ref e) = some se ∧ eqN n sd se = some r ∧ Q r := by
  obtain ⟨ys, ey⟩ := mapM_all (f := snap G 3) (xs := xs.map F) fun d hd => by
    obtain ⟨k, _, rfl⟩ := List.mem_map.mp hd
    exact hF k
  have hl := mapM_len ey
  rw [List.length_map] at hl
  refine ⟨4, .lst ys, .lst [], decide (xs = []), by decide, ?_, ?_, ?_, h⟩
  · show ((seqOf (G p)).bind fun ds => (ds.mapM (snap G 3)).map Sn.lst) = _
    rw [ko]
    show ((xs.map F).mapM (snap G 3)).map Sn.lst = _
    rw [ey]; rfl
  · show ((seqOf (G e)).bind fun ds => (ds.mapM (snap G 3)).map Sn.lst) = _
    rw [ke]; rfl
  · show (if ys.length = ([] : List Sn).length then ((ys.zip []).mapM fun p => eqN 3 p.1 p.2).map fun bs => bs.all id else some false) = _
    cases xs with
    | nil =>
      have : ys = [] := List.length_eq_zero_iff.mp (by rw [hl]; rfl)
      subst this; rfl
    | cons x xs =>
      rw [if_neg (by rw [hl]; simp)]
      rfl
/-- what a row's atoms are -/
noncomputable def atsR : Rowp → List Atm
  | .is x a => [.box x, a]
  | .op x _ a b => [.box x, a, b]
  | .cho a _ _ => [a]
  | .tim _ _ => []
theorem ats_ok {W : Nat} {bs : List Str} {r : Rowp} (h : okR W bs r) : ∀ a ∈ atsR r, okA W bs a := by
  intro a ha
  cases r with
  | is x b =>
    simp only [atsR, List.mem_cons, List.not_mem_nil, or_false] at ha
    rcases ha with rfl | rfl
    · exact h.1
    · exact h.2
  | op x o b c =>
    simp only [atsR, List.mem_cons, List.not_mem_nil, or_false] at ha
    rcases ha with rfl | rfl | rfl
    · exact h.1
    · exact h.2.2.1
    · exact h.2.2.2
  | cho b ys ns =>
    simp only [atsR, List.mem_cons, List.not_mem_nil, or_false] at ha
    rw [ha]; exact h.1
  | tim k ys => cases ha
theorem blks_ok {W : Nat} {bs : List Str} {r : Rowp} (h : okR W bs r) : ∀ b ∈ blks r, okL W bs b := by
  intro b hb
  cases r with
  | is x a => cases hb
  | op x o a c => cases hb
  | cho a ys ns =>
    simp only [blks, List.mem_cons, List.not_mem_nil, or_false] at hb
    rcases hb with rfl | rfl
    · exact h.2.1
    · exact h.2.2
  | tim k ys =>
    simp only [blks, List.mem_cons, List.not_mem_nil, or_false] at hb
    rw [hb]; exact h.2
theorem okL_mem {W : Nat} {bs : List Str} : ∀ {rs : List Rowp}, okL W bs rs → ∀ r ∈ rs, okR W bs r
  | [], _, r, h => by cases h
  | x :: rs, ⟨h1, h2⟩, r, h => by
    rcases List.mem_cons.mp h with e | h
    · rw [e]; exact h1
    · exact okL_mem h2 r h
end L3
namespace L3
open PySem PySem.Spec PyProof.Rows L2 Rw
theorem hi_below {m W : Nat} (h : m < 2 ^ W) : hi m ≤ W := by
  unfold hi
  split
  · omega
  · rename_i h0
    have := (Nat.log2_lt h0).mpr h
    omega
theorem putKD_new {kvs : List (Key × D)} {k : Key} {v : D} (h : valK kvs k = none) : putKD kvs k v = kvs ++ [(k, v)] := by
  unfold putKD
  unfold valK at h
  rw [Option.map_eq_none_iff] at h
  have : kvs.any (fun kv => decide (kv.1 = k)) = false := by
    rw [List.any_eq_false]
    intro x hx
    have := List.find?_eq_none.mp h x hx
    simpa using this
  simp [this]
theorem valK_more {kvs : List (Key × D)} {x b : Str} {v : D} (h : valK kvs (.inr x) = none) (hne : b ≠ x) : valK (kvs ++ [(.inr b, v)]) (.inr x) = none := by
  unfold valK at h ⊢
  rw [Option.map_eq_none_iff] at h ⊢
  rw [List.find?_append, h]
  simp [hne]
end L3

namespace Law
open PySem L2 L3
set_option maxHeartbeats 4000000
noncomputable def top (i : Nat) : Stmt := PySem.Challenge.pw_nolitter_k01_names_and_rows.main.body.getD i (.Pass ⟨0, 0, 0, 0⟩)
noncomputable abbrev s_is_name : Stmt := top 9
noncomputable abbrev s_check : Stmt := top 10
noncomputable abbrev s_check_boxes : Stmt := top 11
noncomputable abbrev s_check_rows : Stmt := top 12
noncomputable abbrev s_check_atom : Stmt := top 13
noncomputable abbrev s_atoms_of : Stmt := top 14
noncomputable abbrev s_blocks_of : Stmt := top 15
noncomputable abbrev s_rows_in : Stmt := top 16
noncomputable abbrev s_law_purse : Stmt := top 18
noncomputable abbrev s_law_next : Stmt := top 19
noncomputable abbrev s_law_names : Stmt := top 20
noncomputable abbrev s_law_number : Stmt := top 21
noncomputable abbrev s_law_atom : Stmt := top 22
noncomputable abbrev s_law_set : Stmt := top 23
noncomputable abbrev s_law_shut : Stmt := top 24
noncomputable abbrev s_law_rows : Stmt := top 25
noncomputable abbrev s_law_program : Stmt := top 26
noncomputable abbrev s_law_text : Stmt := top 27
noncomputable abbrev s_law_is_name : Stmt := top 28
noncomputable abbrev s_law_count : Stmt := top 29
noncomputable abbrev s_law_whole : Stmt := top 30
noncomputable abbrev s_law : Stmt := top 31
theorem sc_is_name : FnScope ["text"] ["text"] (defScope s_is_name) := ⟨rfl, rfl, rfl, by decide +kernel, rfl, by decide +kernel, by decide +kernel⟩
theorem sc_check : FnScope ["program", "boxes"] ["program"] (defScope s_check) := ⟨rfl, rfl, rfl, by decide +kernel, rfl, by decide +kernel, by decide +kernel⟩
theorem sc_check_boxes : FnScope ["boxes", "ahead", "name"] ["boxes"] (defScope s_check_boxes) := ⟨rfl, rfl, rfl, by decide +kernel, rfl, by decide +kernel, by decide +kernel⟩
theorem sc_check_rows : FnScope ["rows", "boxes", "wide", "row", "atom", "inner"] ["rows", "boxes", "wide"] (defScope s_check_rows) := ⟨rfl, rfl, rfl, by decide +kernel, rfl, by decide +kernel, by decide +kernel⟩
theorem sc_check_atom : FnScope ["atom", "boxes", "wide"] ["atom", "boxes", "wide"] (defScope s_check_atom) := ⟨rfl, rfl, rfl, by decide +kernel, rfl, by decide +kernel, by decide +kernel⟩
theorem sc_atoms_of : FnScope ["row"] ["row"] (defScope s_atoms_of) := ⟨rfl, rfl, rfl, by decide +kernel, rfl, by decide +kernel, by decide +kernel⟩
theorem sc_blocks_of : FnScope ["row"] ["row"] (defScope s_blocks_of) := ⟨rfl, rfl, rfl, by decide +kernel, rfl, by decide +kernel, by decide +kernel⟩
theorem sc_rows_in : FnScope ["rows", "many", "row", "inner"] ["rows"] (defScope s_rows_in) := ⟨rfl, rfl, rfl, by decide +kernel, rfl, by decide +kernel, by decide +kernel⟩
theorem sc_law_purse : FnScope ["_law_script", "_law_k", "_law_cell", "_law_seed"] ["_law_script", "_law_k"] (defScope s_law_purse) := ⟨rfl, rfl, rfl, by decide +kernel, rfl, by decide +kernel, by decide +kernel⟩
theorem sc_law_next : FnScope ["_law_purse_here", "_law_many", "_law_digit"] ["_law_purse_here", "_law_many"] (defScope s_law_next) := ⟨rfl, rfl, rfl, by decide +kernel, rfl, by decide +kernel, by decide +kernel⟩
theorem sc_law_names : FnScope ["_law_purse_here", "_law_abc", "_law_longer", "_law_size", "_law_letters", "_law_spot", "_law_first", "_law_names_here", "_law_k", "_law_name", "_law_word"] ["_law_purse_here"] (defScope s_law_names) := ⟨rfl, rfl, rfl, by decide +kernel, rfl, by decide +kernel, by decide +kernel⟩
theorem sc_law_number : FnScope ["_law_purse_here", "_law_wide"] ["_law_purse_here", "_law_wide"] (defScope s_law_number) := ⟨rfl, rfl, rfl, by decide +kernel, rfl, by decide +kernel, by decide +kernel⟩
theorem sc_law_atom : FnScope ["_law_purse_here", "_law_wide", "_law_boxes"] ["_law_purse_here", "_law_wide", "_law_boxes"] (defScope s_law_atom) := ⟨rfl, rfl, rfl, by decide +kernel, rfl, by decide +kernel, by decide +kernel⟩
theorem sc_law_set : FnScope ["_law_purse_here", "_law_wide", "_law_boxes", "_law_x", "_law_one"] ["_law_purse_here", "_law_wide", "_law_boxes"] (defScope s_law_set) := ⟨rfl, rfl, rfl, by decide +kernel, rfl, by decide +kernel, by decide +kernel⟩
theorem sc_law_shut : FnScope ["_law_opened", "_law_rows_here", "_law_ahead", "_law_head", "_law_often"] ["_law_opened", "_law_rows_here"] (defScope s_law_shut) := ⟨rfl, rfl, rfl, by decide +kernel, rfl, by decide +kernel, by decide +kernel⟩
theorem sc_law_rows : FnScope ["_law_script", "_law_wide", "_law_boxes", "_law_most", "_law_opened", "_law_rows_here", "_law_often", "_law_left", "_law_j", "_law_purse_here", "_law_way", "_law_head", "_law_k"] ["_law_script", "_law_wide", "_law_boxes", "_law_most"] (defScope s_law_rows) := ⟨rfl, rfl, rfl, by decide +kernel, rfl, by decide +kernel, by decide +kernel⟩
theorem sc_law_program : FnScope ["_law_script", "_law_purse_here", "_law_wide", "_law_boxes", "_law_many"] ["_law_script"] (defScope s_law_program) := ⟨rfl, rfl, rfl, by decide +kernel, rfl, by decide +kernel, by decide +kernel⟩
theorem sc_law_text : FnScope ["_law_purse_here", "_law_words", "_law_way", "_law_word", "_law_text_here", "_law_k", "_law_signs", "_law_spot"] ["_law_purse_here"] (defScope s_law_text) := ⟨rfl, rfl, rfl, by decide +kernel, rfl, by decide +kernel, by decide +kernel⟩
theorem sc_law_is_name : FnScope ["_law_text_here", "_law_sign", "_law_words"] ["_law_text_here"] (defScope s_law_is_name) := ⟨rfl, rfl, rfl, by decide +kernel, rfl, by decide +kernel, by decide +kernel⟩
theorem sc_law_count : FnScope ["_law_rows_here", "_law_many", "_law_row"] ["_law_rows_here"] (defScope s_law_count) := ⟨rfl, rfl, rfl, by decide +kernel, rfl, by decide +kernel, by decide +kernel⟩
theorem sc_law_whole : FnScope ["_law_found", "_law_due"] ["_law_found", "_law_due"] (defScope s_law_whole) := ⟨rfl, rfl, rfl, by decide +kernel, rfl, by decide +kernel, by decide +kernel⟩
theorem sc_law : FnScope ["_law_script", "_law_k", "_law_text_here", "_law_found", "_law_program_here", "_law_row"] ["_law_script"] (defScope s_law) := ⟨rfl, rfl, rfl, by decide +kernel, rfl, by decide +kernel, by decide +kernel⟩
set_option genInjectivity false in
set_option genSizeOf false in
structure Txt (K : PySem.W.Frag) (mg : Str → Option Value) where
  f_is_name : FnAt K "is_name" "is_name" s_is_name ["text"]
  g_is_name : mg "is_name" = some (.ref f_is_name.a)
  f_check : FnAt K "check" "check" s_check ["program"]
  g_check : mg "check" = some (.ref f_check.a)
  f_check_boxes : FnAt K "check_boxes" "check_boxes" s_check_boxes ["boxes"]
  g_check_boxes : mg "check_boxes" = some (.ref f_check_boxes.a)
  f_check_rows : FnAt K "check_rows" "check_rows" s_check_rows ["rows", "boxes", "wide"]
  g_check_rows : mg "check_rows" = some (.ref f_check_rows.a)
  f_check_atom : FnAt K "check_atom" "check_atom" s_check_atom ["atom", "boxes", "wide"]
  g_check_atom : mg "check_atom" = some (.ref f_check_atom.a)
  f_atoms_of : FnAt K "atoms_of" "atoms_of" s_atoms_of ["row"]
  g_atoms_of : mg "atoms_of" = some (.ref f_atoms_of.a)
  f_blocks_of : FnAt K "blocks_of" "blocks_of" s_blocks_of ["row"]
  g_blocks_of : mg "blocks_of" = some (.ref f_blocks_of.a)
  f_rows_in : FnAt K "rows_in" "rows_in" s_rows_in ["rows"]
  g_rows_in : mg "rows_in" = some (.ref f_rows_in.a)
  f_law_purse : FnAt K "_law_purse" "_law_purse" s_law_purse ["_law_script", "_law_k"]
  g_law_purse : mg "_law_purse" = some (.ref f_law_purse.a)
  f_law_next : FnAt K "_law_next" "_law_next" s_law_next ["_law_purse_here", "_law_many"]
  g_law_next : mg "_law_next" = some (.ref f_law_next.a)
  f_law_names : FnAt K "_law_names" "_law_names" s_law_names ["_law_purse_here"]
  g_law_names : mg "_law_names" = some (.ref f_law_names.a)
  f_law_number : FnAt K "_law_number" "_law_number" s_law_number ["_law_purse_here", "_law_wide"]
  g_law_number : mg "_law_number" = some (.ref f_law_number.a)
  f_law_atom : FnAt K "_law_atom" "_law_atom" s_law_atom ["_law_purse_here", "_law_wide", "_law_boxes"]
  g_law_atom : mg "_law_atom" = some (.ref f_law_atom.a)
  f_law_set : FnAt K "_law_set" "_law_set" s_law_set ["_law_purse_here", "_law_wide", "_law_boxes"]
  g_law_set : mg "_law_set" = some (.ref f_law_set.a)
  f_law_shut : FnAt K "_law_shut" "_law_shut" s_law_shut ["_law_opened", "_law_rows_here"]
  g_law_shut : mg "_law_shut" = some (.ref f_law_shut.a)
  f_law_rows : FnAt K "_law_rows" "_law_rows" s_law_rows ["_law_script", "_law_wide", "_law_boxes", "_law_most"]
  g_law_rows : mg "_law_rows" = some (.ref f_law_rows.a)
  f_law_program : FnAt K "_law_program" "_law_program" s_law_program ["_law_script"]
  g_law_program : mg "_law_program" = some (.ref f_law_program.a)
  f_law_text : FnAt K "_law_text" "_law_text" s_law_text ["_law_purse_here"]
  g_law_text : mg "_law_text" = some (.ref f_law_text.a)
  f_law_is_name : FnAt K "_law_is_name" "_law_is_name" s_law_is_name ["_law_text_here"]
  g_law_is_name : mg "_law_is_name" = some (.ref f_law_is_name.a)
  f_law_count : FnAt K "_law_count" "_law_count" s_law_count ["_law_rows_here"]
  g_law_count : mg "_law_count" = some (.ref f_law_count.a)
  f_law_whole : FnAt K "_law_whole" "_law_whole" s_law_whole ["_law_found", "_law_due"]
  g_law_whole : mg "_law_whole" = some (.ref f_law_whole.a)
  f_law : FnAt K "law" "law" s_law ["_law_script"]
  g_law : mg "law" = some (.ref f_law.a)
  k_LETTERS : ∃ t, mg "LETTERS" = some (.str "abcdefghijklmnopqrstuvwxyz" t)
  k_LONGEST_NAME : ∃ t, mg "LONGEST_NAME" = some (.int 8 t)
  k_WORDS : ConT K mg "WORDS" ["wide", "boxes", "choose", "else", "end", "times"]
  b_abs : mg "abs" = none
  b_all : mg "all" = none
  b_bool : mg "bool" = none
  b_int : mg "int" = none
  b_isinstance : mg "isinstance" = none
  b_len : mg "len" = none
  b_max : mg "max" = none
  b_range : mg "range" = none
  b_str : mg "str" = none
  b_sum : mg "sum" = none
  b_tuple : mg "tuple" = none
end Law
namespace Law
open PySem L2 L3 Rw
set_option maxHeartbeats 4000000
section
variable {P : Program} {w : World} {K : PySem.W.Frag} {mg : Str → Option Value} {base : Heap} (T : Txt K mg)
noncomputable def S_law_purse (_ : Txt K mg) : Sp3 := fun ds G R => ∃ (a : Addr) (ns : List Int) (k : Nat), ds = [.ref a, .int (k : Int)] ∧ seqOf (G a) = some (ns.map .int) ∧ ns.length ≤ 63 ∧ k ≤ 1000 ∧ ∀ (q : Addr) (G' : Gp), G q = none → PuAt G' q → Grow G G' → R (.ref q) G'
noncomputable def S_law_next (_ : Txt K mg) : Sp3 := fun ds G R => ∃ (pr : Addr) (m : Int), ds = [.ref pr, .int m] ∧ PuAt G pr ∧ 1 ≤ m ∧ m ≤ 1000000 ∧ ∀ (d : Int) (G' : Gp), 0 ≤ d → d < m → PAdv pr G G' → R (.int d) G'
noncomputable def S_law_names (_ : Txt K mg) : Sp3 := fun ds G R => ∃ (pr : Addr), ds = [.ref pr] ∧ PuAt G pr ∧ ∀ (bs : List Str) (G' : Gp), 1 ≤ bs.length → bs.length ≤ 6 → (∀ b ∈ bs, nmB b = true) → bs.Nodup → PAdv pr G G' → R (.tup (bs.map .str)) G'
noncomputable def S_law_number (_ : Txt K mg) : Sp3 := fun ds G R => ∃ (pr : Addr) (W : Nat), ds = [.ref pr, .int (W : Int)] ∧ PuAt G pr ∧ W ≤ 16 ∧ ∀ (i : Nat) (G' : Gp), i < 2 ^ W → PAdv pr G G' → R (.int (i : Int)) G'
noncomputable def S_law_atom (_ : Txt K mg) : Sp3 := fun ds G R => ∃ (pr : Addr) (W : Nat) (bs : List Str), ds = [.ref pr, .int (W : Int), .tup (bs.map .str)] ∧ PuAt G pr ∧ W ≤ 16 ∧ 1 ≤ bs.length ∧ bs.length ≤ 6 ∧ ∀ (a : Atm) (G' : Gp), okA W bs a → PAdv pr G G' → R (aD a) G'
noncomputable def S_law_set (_ : Txt K mg) : Sp3 := fun ds G R => ∃ (pr : Addr) (W : Nat) (bs : List Str), ds = [.ref pr, .int (W : Int), .tup (bs.map .str)] ∧ PuAt G pr ∧ W ≤ 16 ∧ 1 ≤ bs.length ∧ bs.length ≤ 6 ∧ ∀ (r : Rowp) (G' : Gp), okR W bs r → wtR r = 1 → szR r = 1 → depR r = 0 → PAdv pr G G' → R (rowD r) G'
noncomputable def S_law_shut (_ : Txt K mg) : Sp3 := fun ds G R => ∃ (op rh : Addr) (f : Fr) (fs : List Fr) (rows : List Rowp), ds = [.ref op, .ref rh] ∧ G op = some (.lst ((fs.map frD).reverse ++ [frD f])) ∧ G f.p = some (.lst (rowsD f.ahead)) ∧ G rh = some (.lst (rowsD rows)) ∧ fs.length ≤ 100 ∧ rows.length ≤ 1000 ∧ f.ahead.length ≤ 1000 ∧ ∀ (q : Addr) (G' : Gp), G q = none → G' q = some (.lst (rowsD (shF f fs rows).2)) → G' op = some (.lst (((shF f fs rows).1.map frD).reverse)) → Kp op G G' → R (.ref q) G'
noncomputable def S_law_rows (_ : Txt K mg) : Sp3 := fun ds G R => ∃ (a : Addr) (ns : List Int) (W : Nat) (bs : List Str) (most : Nat), ds = [.ref a, .int (W : Int), .tup (bs.map .str), .int (most : Int)] ∧ seqOf (G a) = some (ns.map .int) ∧ ns.length ≤ 63 ∧ W ≤ 16 ∧ 1 ≤ bs.length ∧ bs.length ≤ 6 ∧ most ≤ 60 ∧ ∀ (rows : List Rowp) (G' : Gp), okL W bs rows → depL rows ≤ 5 → wtL rows ≤ 120 → szL rows ≤ 60 → Grow G G' → R (.tup (rowsD rows)) G'
noncomputable def S_law_program (_ : Txt K mg) : Sp3 := fun ds G R => ∃ (a : Addr) (ns : List Int), ds = [.ref a] ∧ seqOf (G a) = some (ns.map .int) ∧ ns.length ≤ 63 ∧ ∀ (W : Nat) (bs : List Str) (rows : List Rowp) (G' : Gp), 1 ≤ W → W ≤ 16 → 1 ≤ bs.length → bs.length ≤ 6 → (∀ b ∈ bs, nmB b = true) → bs.Nodup → okL W bs rows → depL rows ≤ 5 → wtL rows ≤ 120 → szL rows ≤ 60 → Grow G G' → R (.tup [.int (W : Int), .tup (bs.map .str), .tup (rowsD rows)]) G'
theorem c_purse {G : Gp} {a : Addr} {ns : List Int} {k : Nat} {q : DK} (h : seqOf (G a) = some (ns.map .int)) (hl : ns.length ≤ 63) (hk : k ≤ 1000) (c : ∀ (q' : Addr) (G' : Gp), G q' = none → PuAt G' q' → Grow G G' → q (.ref q') G') : ∃ R, S_law_purse T [.ref a, .int (k : Int)] G R ∧ ∀ d G', R d G' → q d G' :=
  call_nd (post := fun d G' => ∃ q', d = .ref q' ∧ G q' = none ∧ PuAt G' q' ∧ Grow G G') (fun R h' => ⟨a, ns, k, rfl, h, hl, hk, fun q' G' x y z => h' _ _ ⟨q', rfl, x, y, z⟩⟩) fun d G' ⟨q', e, x, y, z⟩ => by subst e; exact c q' G' x y z
theorem c_next {G : Gp} {pr : Addr} {m : Int} {q : DK} (h : PuAt G pr) (h1 : 1 ≤ m) (h2 : m ≤ 1000000) (c : ∀ (d : Int) (G' : Gp), 0 ≤ d → d < m → PAdv pr G G' → q (.int d) G') : ∃ R, S_law_next T [.ref pr, .int m] G R ∧ ∀ d G', R d G' → q d G' :=
  call_nd (post := fun d G' => ∃ i, d = .int i ∧ 0 ≤ i ∧ i < m ∧ PAdv pr G G') (fun R h' => ⟨pr, m, rfl, h, h1, h2, fun i G' x y z => h' _ _ ⟨i, rfl, x, y, z⟩⟩) fun d G' ⟨i, e, x, y, z⟩ => by subst e; exact c i G' x y z
theorem c_number {G : Gp} {pr : Addr} {W : Nat} {q : DK} (h : PuAt G pr) (h1 : W ≤ 16) (c : ∀ (i : Nat) (G' : Gp), i < 2 ^ W → PAdv pr G G' → q (.int (i : Int)) G') : ∃ R, S_law_number T [.ref pr, .int (W : Int)] G R ∧ ∀ d G', R d G' → q d G' :=
  call_nd (post := fun d G' => ∃ i : Nat, d = .int (i : Int) ∧ i < 2 ^ W ∧ PAdv pr G G') (fun R h' => ⟨pr, W, rfl, h, h1, fun i G' x y => h' _ _ ⟨i, rfl, x, y⟩⟩) fun d G' ⟨i, e, x, y⟩ => by subst e; exact c i G' x y
theorem c_atom {G : Gp} {pr : Addr} {W : Nat} {bs : List Str} {q : DK} (h : PuAt G pr) (h1 : W ≤ 16) (h2 : 1 ≤ bs.length) (h3 : bs.length ≤ 6) (c : ∀ (a : Atm) (G' : Gp), okA W bs a → PAdv pr G G' → q (aD a) G') : ∃ R, S_law_atom T [.ref pr, .int (W : Int), .tup (bs.map .str)] G R ∧ ∀ d G', R d G' → q d G' :=
  call_nd (post := fun d G' => ∃ a, d = aD a ∧ okA W bs a ∧ PAdv pr G G') (fun R h' => ⟨pr, W, bs, rfl, h, h1, h2, h3, fun a G' x y => h' _ _ ⟨a, rfl, x, y⟩⟩) fun d G' ⟨a, e, x, y⟩ => by subst e; exact c a G' x y
theorem c_set {G : Gp} {pr : Addr} {W : Nat} {bs : List Str} {q : DK} (h : PuAt G pr) (h1 : W ≤ 16) (h2 : 1 ≤ bs.length) (h3 : bs.length ≤ 6) (c : ∀ (r : Rowp) (G' : Gp), okR W bs r → wtR r = 1 → szR r = 1 → depR r = 0 → PAdv pr G G' → q (rowD r) G') : ∃ R, S_law_set T [.ref pr, .int (W : Int), .tup (bs.map .str)] G R ∧ ∀ d G', R d G' → q d G' :=
  call_nd (post := fun d G' => ∃ r, d = rowD r ∧ okR W bs r ∧ wtR r = 1 ∧ szR r = 1 ∧ depR r = 0 ∧ PAdv pr G G') (fun R h' => ⟨pr, W, bs, rfl, h, h1, h2, h3, fun r G' x y z u v => h' _ _ ⟨r, rfl, x, y, z, u, v⟩⟩) fun d G' ⟨r, e, x, y, z, u, v⟩ => by subst e; exact c r G' x y z u v
theorem c_shut {G : Gp} {op rh : Addr} {f : Fr} {fs : List Fr} {rows : List Rowp} {q : DK} (h1 : G op = some (.lst ((fs.map frD).reverse ++ [frD f]))) (h2 : G f.p = some (.lst (rowsD f.ahead))) (h3 : G rh = some (.lst (rowsD rows))) (h4 : fs.length ≤ 100) (h5 : rows.length ≤ 1000) (h6 : f.ahead.length ≤ 1000) (c : ∀ (q' : Addr) (G' : Gp), G q' = none → G' q' = some (.lst (rowsD (shF f fs rows).2)) → G' op = some (.lst (((shF f fs rows).1.map frD).reverse)) → Kp op G G' → q (.ref q') G') : ∃ R, S_law_shut T [.ref op, .ref rh] G R ∧ ∀ d G', R d G' → q d G' :=
  call_nd (post := fun d G' => ∃ q', d = .ref q' ∧ G q' = none ∧ G' q' = some (.lst (rowsD (shF f fs rows).2)) ∧ G' op = some (.lst (((shF f fs rows).1.map frD).reverse)) ∧ Kp op G G') (fun R h' => ⟨op, rh, f, fs, rows, rfl, h1, h2, h3, h4, h5, h6, fun q' G' x y z u => h' _ _ ⟨q', rfl, x, y, z, u⟩⟩) fun d G' ⟨q', e, x, y, z, u⟩ => by subst e; exact c q' G' x y z u
noncomputable def S_is_name (_ : Txt K mg) : Sp3 := fun ds G R => ∃ x : Str, ds = [.str x] ∧ x.length ≤ 1000 ∧ ∀ G', Grow G G' → R (.bl (nmB x)) G'
noncomputable def S_law_is_name (_ : Txt K mg) : Sp3 := fun ds G R => ∃ x : Str, ds = [.str x] ∧ x.length ≤ 1000 ∧ ∀ G', Grow G G' → R (.bl (nmB x)) G'
noncomputable def S_atoms_of (_ : Txt K mg) : Sp3 := fun ds G R => ∃ r : Rowp, ds = [rowD r] ∧ ∀ (q : Addr) (G' : Gp), G q = none → G' q = some (.lst ((atsR r).map aD)) → Grow G G' → R (.ref q) G'
noncomputable def S_check_atom (_ : Txt K mg) : Sp3 := fun ds G R => ∃ (a : Atm) (bs : List Str) (W : Nat), ds = [aD a, .tup (bs.map .str), .int (W : Int)] ∧ okA W bs a ∧ W ≤ 16 ∧ R .non G
noncomputable def S_check_rows_r (_ : Txt K mg) (dp : Nat) : Sp3 := fun ds G R => ∃ (rs : List Rowp) (bs : List Str) (W : Nat), ds = [.tup (rowsD rs), .tup (bs.map .str), .int (W : Int)] ∧ okL W bs rs ∧ W ≤ 16 ∧ depL rs < dp ∧ ∀ G', Grow G G' → R .non G'
noncomputable def S_check_rows (T : Txt K mg) : Sp3 := S_check_rows_r T 8
theorem z_check_rows {n : Nat} : Ok P w mg base n T.f_check_rows (S_check_rows_r T 0) := ok_false fun ds G R ⟨_, _, _, _, _, _, h, _⟩ => by omega
noncomputable def S_check_boxes (_ : Txt K mg) : Sp3 := fun ds G R => ∃ bs : List Str, ds = [.tup (bs.map .str)] ∧ bs.Nodup ∧ bs.length ≤ 6 ∧ ∀ G', Grow G G' → R .non G'
noncomputable def S_check (_ : Txt K mg) : Sp3 := fun ds G R => ∃ (W : Nat) (bs : List Str) (rs : List Rowp), ds = [.tup [.int (W : Int), .tup (bs.map .str), .tup (rowsD rs)]] ∧ bs.Nodup ∧ bs.length ≤ 6 ∧ okL W bs rs ∧ W ≤ 16 ∧ depL rs ≤ 5 ∧ ∀ G', Grow G G' → R .non G'
noncomputable def S_blocks_of (_ : Txt K mg) : Sp3 := fun ds G R => ∃ r : Rowp, ds = [rowD r] ∧ ∀ (q : Addr) (G' : Gp), G q = none → G' q = some (.lst (blksD r)) → Grow G G' → R (.ref q) G'
noncomputable def S_rows_in_r (_ : Txt K mg) (dp : Nat) : Sp3 := fun ds G R => ∃ (d : D) (rs : List Rowp), ds = [d] ∧ sqD G d = some (rowsD rs) ∧ depL rs < dp ∧ ∀ G' : Gp, Grow G G' → R (.int (szL rs : Int)) G'
noncomputable def S_rows_in (T : Txt K mg) : Sp3 := S_rows_in_r T 8
theorem z_rows_in {n : Nat} : Ok P w mg base n T.f_rows_in (S_rows_in_r T 0) := ok_false fun ds G R ⟨_, _, _, _, h, _⟩ => by omega
theorem c_rows_in {dp : Nat} {G : Gp} {d : D} {rs : List Rowp} {q : DK} (h : sqD G d = some (rowsD rs)) (h1 : depL rs < dp) (c : ∀ G' : Gp, Grow G G' → q (.int (szL rs : Int)) G') : ∃ R, S_rows_in_r T dp [d] G R ∧ ∀ d G', R d G' → q d G' :=
  call_nd (post := fun d G' => d = .int (szL rs : Int) ∧ Grow G G') (fun R h' => ⟨d, rs, rfl, h, h1, fun G' z => h' _ _ ⟨rfl, z⟩⟩) fun d G' ⟨e, z⟩ => by subst e; exact c G' z
theorem c_blocks_of {G : Gp} {r : Rowp} {q : DK} (c : ∀ (q' : Addr) (G' : Gp), G q' = none → G' q' = some (.lst (blksD r)) → Grow G G' → q (.ref q') G') : ∃ R, S_blocks_of T [rowD r] G R ∧ ∀ d G', R d G' → q d G' :=
  call_nd (post := fun d G' => ∃ q', d = .ref q' ∧ G q' = none ∧ G' q' = some (.lst (blksD r)) ∧ Grow G G') (fun R h => ⟨r, rfl, fun q' G' x y z => h _ _ ⟨q', rfl, x, y, z⟩⟩) fun d G' ⟨q', e, x, y, z⟩ => by subst e; exact c q' G' x y z
theorem c_atoms_of {G : Gp} {r : Rowp} {q : DK} (c : ∀ (q' : Addr) (G' : Gp), G q' = none → G' q' = some (.lst ((atsR r).map aD)) → Grow G G' → q (.ref q') G') : ∃ R, S_atoms_of T [rowD r] G R ∧ ∀ d G', R d G' → q d G' :=
  call_nd (post := fun d G' => ∃ q', d = .ref q' ∧ G q' = none ∧ G' q' = some (.lst ((atsR r).map aD)) ∧ Grow G G') (fun R h => ⟨r, rfl, fun q' G' x y z => h _ _ ⟨q', rfl, x, y, z⟩⟩) fun d G' ⟨q', e, x, y, z⟩ => by subst e; exact c q' G' x y z
noncomputable def S_law_text (_ : Txt K mg) : Sp3 := fun ds G R => ∃ pr : Addr, ds = [.ref pr] ∧ PuAt G pr ∧ ∀ (x : Str) (G' : Gp), x.length ≤ 1000 → PAdv pr G G' → R (.str x) G'
noncomputable def S_law_count_r (_ : Txt K mg) (dp : Nat) : Sp3 := fun ds G R => ∃ rs : List Rowp, ds = [.tup (rowsD rs)] ∧ depL rs < dp ∧ R (.int (szL rs : Int)) G
noncomputable def S_law_count (T : Txt K mg) : Sp3 := S_law_count_r T 8
theorem z_law_count {n : Nat} : Ok P w mg base n T.f_law_count (S_law_count_r T 0) := ok_false fun ds G R ⟨_, _, h, _⟩ => by omega
theorem c_count {dp : Nat} {G : Gp} {rs : List Rowp} {q : DK} (h1 : depL rs < dp) (c : q (.int (szL rs : Int)) G) : ∃ R, S_law_count_r T dp [.tup (rowsD rs)] G R ∧ ∀ d G', R d G' → q d G' := call_det (v := .int (szL rs : Int)) (G1 := G) (fun R h => ⟨rs, rfl, h1, h⟩) c
noncomputable def S_law_whole (_ : Txt K mg) : Sp3 := fun ds G R => ∃ i : Int, ds = [.int i, .int i] ∧ R (.bl true) G
noncomputable def S_law (_ : Txt K mg) : Sp3 := fun ds G R => ∃ (a : Addr) (ns : List Int), ds = [.ref a] ∧ G a = some (.fro (ns.map .int)) ∧ ns.length ≤ 63 ∧ ∀ G', R (.bl true) G'
theorem c_name {G : Gp} {x : Str} {q : DK} (h : x.length ≤ 1000) (c : ∀ G' : Gp, Grow G G' → q (.bl (nmB x)) G') : ∃ R, S_is_name T [.str x] G R ∧ ∀ d G', R d G' → q d G' :=
  call_nd (post := fun d G' => d = .bl (nmB x) ∧ Grow G G') (fun R h' => ⟨x, rfl, h, fun G' z => h' _ _ ⟨rfl, z⟩⟩) fun d G' ⟨e, z⟩ => by subst e; exact c G' z
theorem c_lname {G : Gp} {x : Str} {q : DK} (h : x.length ≤ 1000) (c : ∀ G' : Gp, Grow G G' → q (.bl (nmB x)) G') : ∃ R, S_law_is_name T [.str x] G R ∧ ∀ d G', R d G' → q d G' :=
  call_nd (post := fun d G' => d = .bl (nmB x) ∧ Grow G G') (fun R h' => ⟨x, rfl, h, fun G' z => h' _ _ ⟨rfl, z⟩⟩) fun d G' ⟨e, z⟩ => by subst e; exact c G' z
end
end Law

set_option compiler.extract_closed false
open PySem L2 L3 Rw in
set_option hygiene false in
local macro_rules | `(tactic| dsimp! only [$xs,*]) => `(tactic| try simp only [dComp, Int.toNat_natCast, dCall, dMeth, dMake, List.append_nil, dSeq, dNext, dAsg, dDrop, dRet, dRetN, dIfS, dB, dAnd, dOr, dNot, dAndV, dOrV, dNotV, dIf, dVar, dC, dOp, dUn, dNil, dCons, dTup, dLst, dCB, dSl, dPart, dNoPart, dBM, dBM0, dAug, dFld, dSetF, dAugF, dYes, jName, jSub, jSeq, jCons, jNil, wRng1, wRng2, wAny, dFor, xSub, xDiv, xMod, xPow, xShl, xShr, xAnd, xOr, xXor, kindD, tyD, startD, innerD, List.map_cons, List.map_nil, List.cons_append, List.nil_append, List.length_cons, List.length_nil, List.replicate, List.getElem?_cons_zero, List.getElem?_cons_succ, List.set_cons_zero, List.set_cons_succ, Nat.reduceAdd, Nat.reduceSub, Nat.sub_self, seqOf_lst, seqOf_fro, gup_same, Option.bind_some, Option.bind_none, id, Bool.false_eq_true, if_true, if_false, reduceIte, true_and, and_true, decide_true, decide_false, Bool.not_true, Bool.not_false, atI_0, atI_1, atI_2, atI_3, atI_4, ixN_30, ixN_31, ixN_32, ixN_20, ixN_21, xr_all, xs_all, dBack, $xs,*])
namespace Law
open PySem L2 L3 Rw
set_option maxHeartbeats 4000000
section
variable {P : Program} {w : World} {K : PySem.W.Frag} {mg : Str → Option Value} {base : Heap} (T : Txt K mg)
theorem ok_is_name {n : Nat} : Ok P w mg base (n + 1) T.f_is_name (S_is_name T) := by
  refine def_ok T.f_is_name sc_is_name (fun ds G R h => ?_) (fun cdv A outer s H E hr =>
      (ss_cons (s_if (t_w (w_or (t_cmp (x_lt) (e_callB x_len rfl T.b_len (by decide +kernel) (a_cons (ev 0) a_nil)) e_int (nomark _)) (w_or (t_cmp (x_gt) (e_callB x_len rfl T.b_len (by decide +kernel) (a_cons (ev 0) a_nil)) (e_const T.k_LONGEST_NAME) (nomark _)) (w_or1 (t_cmp (x_in hr) (ev 0) (e_constT T.k_WORDS) (by with_unfolding_all rfl)))))) (ss_one (s_ret e_bl)) ss_nil)
      (ss_one (s_ret (e_callB x_all rfl T.b_all (by decide +kernel) (a_cons (e_comp (N' := ["sign"]) (ix := [none]) (blk (osc := defScope s_is_name) (N := ["text"]) rfl rfl (by decide +kernel)) (i_str (ev 0)) (fun _ _ _ _ => (j_name 0 (show (["sign"] : List Str).Nodup by decide +kernel))) (fun _ _ _ _ => ifs_nil) (fun _ _ _ _ => (e_cmp (x_inS) (ev 0) (e_constS T.k_LETTERS) (by with_unfolding_all rfl)))) a_nil)))))) (fun ds G R h => ?_)
  · obtain ⟨x, rfl, _⟩ := h; rfl
  · obtain ⟨x, rfl, hx, post⟩ := h
    have hz : x.length ≤ sizeLine := Nat.le_trans hx (by decide)
    have hzT : (x.length ≤ sizeLine) = True := eq_true hz
    have bad : (¬ 1 ≤ x.length ∨ ¬ x.length ≤ 8 ∨ x ∈ WDS) → nmB x = false := fun z => by
      cases e : nmB x with
      | false => rfl
      | true =>
        unfold nmB at e
        simp only [Bool.and_eq_true, decide_eq_true_eq, Bool.not_eq_true', decide_eq_false_iff_not] at e
        rcases z with z | z | z
        · exact absurd e.1.1.1 z
        · exact absurd e.1.1.2 z
        · exact absurd z e.1.2
    dsimp! only [lenS, hzT]
    by_cases h1 : 1 ≤ x.length
    · rw [if_neg (by rw [decide_eq_false (by omega)]; decide)]
      by_cases h2 : x.length ≤ 8
      · rw [if_neg (by rw [decide_eq_false (by omega)]; decide)]
        refine xin_strs (ws := WDS) ?_
        rw [if_neg Bool.false_ne_true]
        by_cases h3 : x ∈ WDS
        · rw [bad (.inr (.inr h3))] at post
          rw [decide_eq_true h3]
          exact post _ Grow.refl
        · rw [decide_eq_false h3]
          dsimp! only [id]
          (simp only [Go]; dsimp! only [wStr])
          refine ⟨x, rfl, fun p hp => ?_⟩
          have enm : nmB x = ltr x := by unfold nmB; rw [decide_eq_true h1, decide_eq_true h2, decide_eq_false h3]; simp
          refine compL_ind (fun r σ G' => ∃ (l t : List Nat) (v : Option D), l ++ t = x.cps.toList ∧ r = t.map (fun c => D.str ⟨#[c]⟩) ∧ G' = gup G p (.lst ((l.map fun c => decide (97 ≤ c) && decide (c ≤ 122)).map D.bl)) ∧ σ = [v]) ⟨[], _, none, rfl, rfl, rfl, rfl⟩ ?_ ?_
          · rintro σ G1 ⟨l, t, v, e, e2, rfl, rfl⟩
            have ht : t = [] := by simpa using e2.symm
            subst ht
            rw [List.append_nil] at e
            refine ⟨trivial, ?_⟩
            dsimp! only [gup_same, seqOf_lst, allBl_map]
            rw [enm] at post
            have el : (l.map fun c => decide (97 ≤ c) && decide (c ≤ 122)).all id = ltr x := by
              unfold ltr
              rw [← e, List.all_map]; rfl
            rw [el]
            exact post _ (Grow.refl.new hp)
          · rintro z r σ G1 ⟨l, t, v, e, e2, rfl, rfl⟩ ih
            cases t with
            | nil => cases e2
            | cons c t =>
              cases e2
              refine ⟨trivial, ?_⟩
              have hlen := congrArg List.length e
              rw [List.length_append, List.length_cons, ← str_len] at hlen
              dsimp! only [id]
              refine ⟨c, _, rfl, rfl, ?_⟩
              rw [letters]
              dsimp! only [gup_same]
              refine ⟨Nat.lt_of_le_of_lt (m := 1000) (by rw [List.length_map, List.length_map]; omega) (by decide), ih _ _ ⟨l ++ [c], t, _, by rw [← e, List.append_assoc]; rfl, rfl, ?_, rfl⟩⟩
              rw [gup_gup, List.map_append, List.map_append]; rfl
      · rw [if_pos (decide_eq_true (by omega))]
        rw [bad (.inr (.inl h2))] at post
        exact post _ Grow.refl
    · rw [if_pos (decide_eq_true (by omega))]
      rw [bad (.inl h1)] at post
      exact post _ Grow.refl
theorem ok_atoms_of {n : Nat} : Ok P w mg base (n + 1) T.f_atoms_of (S_atoms_of T) := by
  refine def_ok T.f_atoms_of sc_atoms_of (fun ds G R h => ?_) (fun cdv A outer s H E hr =>
      (ss_cons (s_if (t_cmp (x_eq hr) (e_ix x_ix (ev 0) e_int) e_str (nomark _)) (ss_one (s_ret (e_lst (a_cons (e_ix x_ix (ev 0) e_int) (a_cons (e_ix x_ix (ev 0) e_int) a_nil))))) ss_nil)
      (ss_cons (s_if (t_cmp (x_eq hr) (e_ix x_ix (ev 0) e_int) e_str (nomark _)) (ss_one (s_ret (e_lst (a_cons (e_ix x_ix (ev 0) e_int) (a_cons (e_ix x_ix (ev 0) e_int) (a_cons (e_ix x_ix (ev 0) e_int) a_nil)))))) ss_nil)
      (ss_cons (s_if (t_cmp (x_eq hr) (e_ix x_ix (ev 0) e_int) e_str (nomark _)) (ss_one (s_ret (e_lst (a_cons (e_ix x_ix (ev 0) e_int) a_nil)))) ss_nil)
      (ss_one (s_ret (e_lst a_nil))))))) (fun ds G R h => ?_)
  · obtain ⟨r, rfl, _⟩ := h; rfl
  · obtain ⟨r, rfl, post⟩ := h
    cases r with
    | is x a =>
      dsimp! only [rowD]
      exact ⟨by decide, fun p hp => post p _ hp gup_same (Grow.refl.new hp)⟩
    | op x o a b =>
      dsimp! only [rowD]
      (simp only [Go]; dsimp! only [id])
      exact ⟨by decide, fun p hp => post p _ hp gup_same (Grow.refl.new hp)⟩
    | cho a ys ns =>
      dsimp! only [rowD]
      (simp only [Go]; dsimp! only [id])
      (simp only [Go]; dsimp! only [id])
      exact ⟨by decide, fun p hp => post p _ hp gup_same (Grow.refl.new hp)⟩
    | tim k ys =>
      dsimp! only [rowD]
      (simp only [Go]; dsimp! only [id])
      (simp only [Go]; dsimp! only [id])
      (simp only [Go]; dsimp! only [id])
      exact ⟨by decide, fun p hp => post p _ hp gup_same (Grow.refl.new hp)⟩
theorem ok_blocks_of {n : Nat} : Ok P w mg base (n + 1) T.f_blocks_of (S_blocks_of T) := by
  refine def_ok T.f_blocks_of sc_blocks_of (fun ds G R h => ?_) (fun cdv A outer s H E hr =>
      (ss_cons (s_if (t_cmp (x_eq hr) (e_ix x_ix (ev 0) e_int) e_str (nomark _)) (ss_one (s_ret (e_lst (a_cons (e_ix x_ix (ev 0) e_int) (a_cons (e_ix x_ix (ev 0) e_int) a_nil))))) ss_nil)
      (ss_cons (s_if (t_cmp (x_eq hr) (e_ix x_ix (ev 0) e_int) e_str (nomark _)) (ss_one (s_ret (e_lst (a_cons (e_ix x_ix (ev 0) e_int) a_nil)))) ss_nil)
      (ss_one (s_ret (e_lst a_nil)))))) (fun ds G R h => ?_)
  · obtain ⟨r, rfl, _⟩ := h; rfl
  · obtain ⟨r, rfl, post⟩ := h
    cases r with
    | is x a =>
      dsimp! only [rowD]
      (simp only [Go]; dsimp! only [id])
      (simp only [Go]; dsimp! only [id])
      exact ⟨by decide, fun p hp => post p _ hp gup_same (Grow.refl.new hp)⟩
    | op x o a b =>
      dsimp! only [rowD]
      (simp only [Go]; dsimp! only [id])
      (simp only [Go]; dsimp! only [id])
      exact ⟨by decide, fun p hp => post p _ hp gup_same (Grow.refl.new hp)⟩
    | cho a ys ns =>
      dsimp! only [rowD]
      exact ⟨by decide, fun p hp => post p _ hp gup_same (Grow.refl.new hp)⟩
    | tim k ys =>
      dsimp! only [rowD]
      (simp only [Go]; dsimp! only [id])
      exact ⟨by decide, fun p hp => post p _ hp gup_same (Grow.refl.new hp)⟩
theorem ok_check_atom {n : Nat} : Ok P w mg base (n + 1) T.f_check_atom (S_check_atom T) := by
  refine def_ok T.f_check_atom sc_check_atom (fun ds G R h => ?_) (fun cdv A outer s H E hr =>
      (ss_one (s_if (t_val (e_callB x_isinst rfl T.b_isinstance (by decide +kernel) (a_cons (ev 0) (a_cons (e_type (T := "str") T.b_str (by decide +kernel)) a_nil)))) (ss_one (s_if (t_cmp (x_notIn hr) (ev 0) (ev 1) (by with_unfolding_all rfl)) (ss_one s_never) ss_nil)) (ss_one (s_if (t_cmp (x_gt) (e_bit_length0 (ev 0)) (ev 2) (nomark _)) (ss_one s_never) ss_nil))))) (fun ds G R h => ?_)
  · obtain ⟨a, bs, W, rfl, _⟩ := h; rfl
  · obtain ⟨a, bs, W, rfl, ha, hW, post⟩ := h
    cases a with
    | num i =>
      dsimp! only [aD]
      refine ⟨.inr (.inl trivial), ?_⟩
      rw [show subK "int" "str" = false from rfl, if_neg Bool.false_ne_true]
      show (fun x G1 => xGt x (D.int (W : Int)) G1 fun x G1 => _) (D.int (Builtin.Int.intBits (i : Int) : Int)) G
      have hb : Builtin.Int.intBits (i : Int) ≤ W := by rw [hi_bits]; exact hi_below ha
      have d1 : ((Builtin.Int.intBits (i : Int) : Int) > (W : Int)) = False := eq_false (by omega)
      dsimp! only [d1]
      exact post
    | box x =>
      dsimp! only [aD]
      refine ⟨.inr (.inl trivial), ?_⟩
      rw [show subK "str" "str" = true from rfl, if_pos rfl]
      refine xin_strs ?_
      rw [if_pos rfl, decide_eq_true (show x ∈ bs from ha)]
      exact post
theorem ok_check_rows {n dp : Nat} (G_check_rows : Ok P w mg base n T.f_check_rows (S_check_rows_r T dp)) (G_check_atom : Ok P w mg base n T.f_check_atom (S_check_atom T)) (G_atoms_of : Ok P w mg base n T.f_atoms_of (S_atoms_of T)) (G_blocks_of : Ok P w mg base n T.f_blocks_of (S_blocks_of T)) : Ok P w mg base (n + 1) T.f_check_rows (S_check_rows_r T (dp + 1)) := by
  refine def_ok T.f_check_rows sc_check_rows (fun ds G R h => ?_) (fun cdv A outer s H E hr =>
      (ss_one (s_for (i_any (ev 0)) (j_name 3 sc_check_rows.nd) (ss_cons (s_for (i_any (ec T.f_atoms_of T.g_atoms_of G_atoms_of hr (a_cons (ev 3) a_nil))) (j_name 4 sc_check_rows.nd) (ss_one (s_expr (ec T.f_check_atom T.g_check_atom G_check_atom hr (a_cons (ev 4) (a_cons (ev 1) (a_cons (ev 2) a_nil)))))))
      (ss_one (s_for (i_any (ec T.f_blocks_of T.g_blocks_of G_blocks_of hr (a_cons (ev 3) a_nil))) (j_name 5 sc_check_rows.nd) (ss_one (s_expr (ec T.f_check_rows T.g_check_rows G_check_rows hr (a_cons (ev 5) (a_cons (ev 1) (a_cons (ev 2) a_nil)))))))))))) (fun ds G R h => ?_)
  · obtain ⟨rs, bs, W, rfl, _⟩ := h; rfl
  · obtain ⟨rs, bs, W, rfl, hok, hW, hd, post⟩ := h
    dsimp! only [id]
    refine forL_ind (fun r σ G' => ∃ (l t : List Rowp) (v3 v4 v5 : Option D), l ++ t = rs ∧ r = rowsD t ∧ Grow G G' ∧ σ = [some (.tup (rowsD rs)), some (.tup (bs.map .str)), some (.int (W : Int)), v3, v4, v5]) ⟨[], rs, none, none, none, rfl, rfl, Grow.refl, rfl⟩ ?_ ?_
    · rintro σ G1 ⟨l, t, v3, v4, v5, e, e2, g, rfl⟩
      exact ⟨trivial, post _ g⟩
    · rintro x r σ G1 ⟨l, t, v3, v4, v5, e, e2, g, rfl⟩ ih
      cases t with
      | nil => cases e2
      | cons r0 t =>
        cases e2
        refine ⟨trivial, ?_⟩
        have hm : r0 ∈ rs := by rw [← e]; simp
        have hr := okL_mem hok r0 hm
        have hdr := mem_dep (Nat.le_of_lt_succ hd) r0 hm
        dsimp! only [id]
        refine c_atoms_of T fun q G2 f2 k2 g2 => ?_
        dsimp! only [k2, seqOf_lst]
        generalize hN : Go (dFor _ _ _ _) = N
        have r1 : ∀ (G3 : Gp) (v4 : Option D), Grow G2 G3 → N [some (.tup (rowsD rs)), some (.tup (bs.map .str)), some (.int (W : Int)), some (rowD r0), v4, v5] G3 := by
          intro G3 v4 g3
          rw [← hN]
          clear hN N
          (simp only [Go]; dsimp! only [id])
          refine c_blocks_of T fun q' G4 f4 k4 g4 => ?_
          dsimp! only [k4, seqOf_lst]
          generalize hFL : forL (fun _ => True) _ _ _ (rowsD t) = FL at ih ⊢
          refine forL_ind (fun r σ G' => ∃ (bl bt : List (List Rowp)) (v5 : Option D), bl ++ bt = blks r0 ∧ r = bt.map (fun ys => D.tup (rowsD ys)) ∧ Grow G4 G' ∧ σ = [some (.tup (rowsD rs)), some (.tup (bs.map .str)), some (.int (W : Int)), some (rowD r0), v4, v5]) ⟨[], blks r0, v5, rfl, rfl, Grow.refl, rfl⟩ ?_ ?_
          · rintro σ G5 ⟨bl, bt, v5, eb, eb2, g5, rfl⟩
            refine ⟨by rw [g5.kp _ _ k4]; rfl, ?_⟩
            exact ih _ _ ⟨l ++ [r0], t, _, _, _, by rw [← e]; simp, rfl, (((g.trans g2).trans g3).trans g4).trans g5, rfl⟩
          · rintro x r σ G5 ⟨bl, bt, v5, eb, eb2, g5, rfl⟩ ih2
            cases bt with
            | nil => cases eb2
            | cons b0 bt =>
              cases eb2
              refine ⟨by rw [g5.kp _ _ k4]; rfl, ?_⟩
              have hb0 : b0 ∈ blks r0 := by rw [← eb]; simp
              have hdb := blks_dep b0 hb0
              dsimp! only [id]
              refine call_nd (post := fun d G' => d = .non ∧ Grow G5 G') (fun R h => ⟨b0, bs, W, rfl, blks_ok hr b0 hb0, hW, by omega, fun G' z => h _ _ ⟨rfl, z⟩⟩) ?_
              rintro d G6 ⟨rfl, g6⟩
              dsimp! only [id]
              exact ih2 _ _ ⟨bl ++ [b0], bt, some (.tup (rowsD b0)), by rw [← eb]; simp, rfl, g5.trans g6, rfl⟩
        refine forL_ind (fun r σ G' => ∃ (al at' : List Atm) (v4 : Option D), al ++ at' = atsR r0 ∧ r = at'.map aD ∧ G' = G2 ∧ σ = [some (.tup (rowsD rs)), some (.tup (bs.map .str)), some (.int (W : Int)), some (rowD r0), v4, v5]) ⟨[], atsR r0, v4, rfl, rfl, rfl, rfl⟩ ?_ ?_
        · rintro σ G3 ⟨al, at', v4, ea, ea2, rfl, rfl⟩
          refine ⟨by rw [k2]; rfl, ?_⟩
          exact r1 _ v4 Grow.refl
        · rintro x r σ G3 ⟨al, at', v4, ea, ea2, rfl, rfl⟩ ih2
          cases at' with
          | nil => cases ea2
          | cons a0 at' =>
            cases ea2
            refine ⟨by rw [k2]; rfl, ?_⟩
            dsimp! only [id]
            refine call_det (v := .non) (G1 := G3) (fun R h => ⟨a0, bs, W, rfl, ats_ok hr a0 (by rw [← ea]; simp), hW, h⟩) ?_
            dsimp! only [id]
            exact ih2 _ _ ⟨al ++ [a0], at', some (aD a0), by rw [← ea]; simp, rfl, rfl, rfl⟩
theorem ok_check_boxes {n : Nat} : Ok P w mg base (n + 1) T.f_check_boxes (S_check_boxes T) := by
  refine def_ok T.f_check_boxes sc_check_boxes (fun ds G R h => ?_) (fun cdv A outer s H E hr =>
      (ss_cons (s_set 1 sc_check_boxes.nd e_dnewK)
      (ss_one (s_for (i_any (ev 0)) (j_name 2 sc_check_boxes.nd) (ss_cons (s_if (t_cmp (x_inK hr) (ev 2) (ev 1) (by with_unfolding_all rfl)) (ss_one s_never) ss_nil)
      (ss_one (s_dputK hr (ev 1) (ev 2) e_bl))))))) (fun ds G R h => ?_)
  · obtain ⟨bs, rfl, _⟩ := h; rfl
  · obtain ⟨bs, rfl, hnd, hl, post⟩ := h
    dsimp! only [dNewK]
    intro p hp
    (simp only [Go]; dsimp! only [id])
    refine forL_ind (fun r σ G' => ∃ (l t : List Str) (kvs : List (Key × D)) (v2 : Option D), l ++ t = bs ∧ r = t.map .str ∧ G' = gup G p (.dic kvs) ∧ kvs.length = l.length ∧ (∀ x, x ∉ l → valK kvs (.inr x) = none) ∧ σ = [some (.tup (bs.map .str)), some (.ref p), v2]) ⟨[], bs, [], none, rfl, rfl, rfl, rfl, fun _ _ => rfl, rfl⟩ ?_ ?_
    · rintro σ G1 ⟨l, t, kvs, v2, e, e2, rfl, hk, hv, rfl⟩
      exact ⟨trivial, post _ (Grow.refl.new hp)⟩
    · rintro x r σ G1 ⟨l, t, kvs, v2, e, e2, rfl, hk, hv, rfl⟩ ih
      cases t with
      | nil => cases e2
      | cons b t =>
        cases e2
        refine ⟨trivial, ?_⟩
        have hnd2 : (l ++ b :: t).Nodup := by rw [e]; exact hnd
        have hb : b ∉ l := fun z => by
          have := (List.nodup_append.mp hnd2).2.2
          exact this b z b List.mem_cons_self rfl
        have hlen := congrArg List.length e
        rw [List.length_append, List.length_cons] at hlen
        dsimp! only [id]
        refine ⟨.inr b, kvs, p, rfl, rfl, gup_same, ?_⟩
        rw [hv b hb]
        dsimp! only [id]
        (simp only [Go]; dsimp! only [dPutK])
        refine ⟨p, kvs, .inr b, rfl, rfl, gup_same, Nat.lt_of_le_of_lt (m := 1000) (by omega) (by decide), ?_⟩
        rw [gup_gup]
        have hnone := hv b hb
        have ep : putKD kvs (.inr b) (.bl true) = kvs ++ [(.inr b, .bl true)] := putKD_new hnone
        refine ih _ _ ⟨l ++ [b], t, _, _, by rw [← e]; simp, rfl, rfl, by rw [ep, List.length_append, List.length_append, hk]; rfl, fun y hy => ?_, rfl⟩
        rw [ep]
        have hy1 : y ∉ l := fun z => hy (List.mem_append_left _ z)
        have hy2 : b ≠ y := fun z => hy (by rw [z]; simp)
        exact valK_more (hv y hy1) hy2
theorem ok_check {n : Nat} (G_check_boxes : Ok P w mg base n T.f_check_boxes (S_check_boxes T)) (G_check_rows : Ok P w mg base n T.f_check_rows (S_check_rows T)) : Ok P w mg base (n + 1) T.f_check (S_check T) := by
  refine def_ok T.f_check sc_check (fun ds G R h => ?_) (fun cdv A outer s H E hr =>
      (ss_cons (s_set 1 sc_check.nd (e_ix x_ix (ev 0) e_int))
      (ss_cons (s_expr (ec T.f_check_boxes T.g_check_boxes G_check_boxes hr (a_cons (ev 1) a_nil)))
      (ss_one (s_expr (ec T.f_check_rows T.g_check_rows G_check_rows hr (a_cons (e_ix x_ix (ev 0) e_int) (a_cons (ev 1) (a_cons (e_ix x_ix (ev 0) e_int) a_nil))))))))) (fun ds G R h => ?_)
  · obtain ⟨W, bs, rs, rfl, _⟩ := h; rfl
  · obtain ⟨W, bs, rs, rfl, hnd, hl, hok, hW, hd, post⟩ := h
    dsimp! only [id]
    (simp only [Go]; dsimp! only [id])
    refine call_nd (post := fun d G' => d = .non ∧ Grow G G') (fun R h => ⟨bs, rfl, hnd, hl, fun G' z => h _ _ ⟨rfl, z⟩⟩) ?_
    rintro d G1 ⟨rfl, g1⟩
    dsimp! only [id]
    (simp only [Go]; dsimp! only [id])
    refine call_nd (post := fun d G' => d = .non ∧ Grow G1 G') (fun R h => ⟨rs, bs, W, rfl, hok, hW, by omega, fun G' z => h _ _ ⟨rfl, z⟩⟩) ?_
    rintro d G2 ⟨rfl, g2⟩
    dsimp! only [id]
    exact post _ (g1.trans g2)
theorem ok_rows_in {n dp : Nat} (G_blocks_of : Ok P w mg base n T.f_blocks_of (S_blocks_of T)) (G_rows_in : Ok P w mg base n T.f_rows_in (S_rows_in_r T dp)) : Ok P w mg base (n + 1) T.f_rows_in (S_rows_in_r T (dp + 1)) := by
  refine def_ok T.f_rows_in sc_rows_in (fun ds G R h => ?_) (fun cdv A outer s H E hr =>
      (ss_cons (s_set 1 sc_rows_in.nd e_int)
      (ss_cons (s_for (i_any (ev 0)) (j_name 2 sc_rows_in.nd) (ss_cons (s_aug 1 sc_rows_in.nd e_int x_iadd)
      (ss_one (s_for (i_any (ec T.f_blocks_of T.g_blocks_of G_blocks_of hr (a_cons (ev 2) a_nil))) (j_name 3 sc_rows_in.nd) (ss_one (s_aug 1 sc_rows_in.nd (ec T.f_rows_in T.g_rows_in G_rows_in hr (a_cons (ev 3) a_nil)) x_iadd))))))
      (ss_one (s_ret (ev 1)))))) (fun ds G R h => ?_)
  · obtain ⟨d, rs, rfl, _⟩ := h; rfl
  · obtain ⟨d, rs, rfl, h0, hd, post⟩ := h
    dsimp! only [id]
    (simp only [Go]; dsimp! only [id])
    have main : ∀ (ok : Gp → Prop), (∀ G', Grow G G' → ok G') → forL ok (jName 2) (dSeq (dAug 1 (dC (D.int 1)) (xInt fun i j => i + j)) (dFor (wAny (dCall (S_blocks_of T) [] (dCons (dVar 2) dNil))) (jName 3) (dAug 1 (dCall (S_rows_in_r T dp) [] (dCons (dVar 3) dNil)) (xInt fun i j => i + j)))) { nx := Go (dRet (dVar 1) { nx := fun x G' => R D.non G', rt := R }), rt := R } (rowsD rs) [some d, some (D.int 0), none, none] G := by
      intro ok hok
      refine forL_ind (fun r σ G' => ∃ (l t : List Rowp) (v2 v3 : Option D), l ++ t = rs ∧ r = rowsD t ∧ Grow G G' ∧ σ = [some d, some (.int (szL l : Int)), v2, v3]) ⟨[], rs, none, none, rfl, rfl, Grow.refl, rfl⟩ ?_ ?_
      · rintro σ G1 ⟨l, t, v2, v3, e, e2, g, rfl⟩
        have ht : t = [] := by
          cases t with
          | nil => rfl
          | cons x t => cases e2
        subst ht
        rw [List.append_nil] at e
        subst e
        refine ⟨hok G1 g, ?_⟩
        (simp only [Go]; dsimp! only [id])
        exact post G1 g
      · rintro x r σ G1 ⟨l, t, v2, v3, e, e2, g, rfl⟩ ih
        cases t with
        | nil => cases e2
        | cons r0 t =>
          cases e2
          refine ⟨hok G1 g, ?_⟩
          have hm : r0 ∈ rs := by rw [← e]; simp
          have hdr := mem_dep (Nat.le_of_lt_succ hd) r0 hm
          dsimp! only [id]
          (simp only [Go]; dsimp! only [id])
          refine c_blocks_of T fun q G2 f2 k2 g2 => ?_
          dsimp! only [k2, seqOf_lst]
          generalize hFL : forL ok _ _ _ (rowsD t) = FL at ih ⊢
          refine forL_ind (fun r σ G' => ∃ (bl bt : List (List Rowp)) (v3 : Option D), bl ++ bt = blks r0 ∧ r = bt.map (fun ys => D.tup (rowsD ys)) ∧ Grow G2 G' ∧ σ = [some d, some (.int ((szL l : Int) + 1 + (szB bl : Int))), some (rowD r0), v3]) ⟨[], blks r0, v3, rfl, rfl, Grow.refl, by simp [szB]⟩ ?_ ?_
          · rintro σ G3 ⟨bl, bt, v3, eb, eb2, g3, rfl⟩
            have ht : bt = [] := by simpa using eb2.symm
            subst ht
            rw [List.append_nil] at eb
            subst eb
            refine ⟨by rw [g3.kp _ _ k2]; rfl, ?_⟩
            refine ih _ _ ⟨l ++ [r0], t, some (rowD r0), v3, by rw [← e]; simp, rfl, (g.trans g2).trans g3, ?_⟩
            have : szL (l ++ [r0]) = szL l + 1 + szB (blks r0) := by rw [szL_app]; show szL l + (szR r0 + 0) = _; rw [szB_blks]; omega
            rw [this]
            simp
          · rintro x r σ G3 ⟨bl, bt, v3, eb, eb2, g3, rfl⟩ ih2
            cases bt with
            | nil => cases eb2
            | cons b0 bt =>
              cases eb2
              refine ⟨by rw [g3.kp _ _ k2]; rfl, ?_⟩
              have hdb := blks_dep b0 (by rw [← eb]; simp)
              dsimp! only [id]
              refine c_rows_in T (rs := b0) rfl (by omega) fun G4 g4 => ?_
              dsimp! only [id]
              refine ih2 _ _ ⟨bl ++ [b0], bt, some (.tup (rowsD b0)), by rw [← eb]; simp, rfl, g3.trans g4, ?_⟩
              rw [szB_app]
              simp [szB]
              omega
    cases d with
    | tup ds =>
      have e : ds = rowsD rs := by simpa [sqD] using h0
      subst e
      exact main _ fun _ _ => trivial
    | ref a =>
      have h0' : seqOf (G a) = some (rowsD rs) := h0
      dsimp! only [h0']
      refine main _ fun G' g => ?_
      exact seqOf_grow g h0'
    | _ => exact absurd h0 (by simp [sqD])
theorem ok_law_purse {n : Nat} : Ok P w mg base (n + 1) T.f_law_purse (S_law_purse T) := by
  refine def_ok T.f_law_purse sc_law_purse (fun ds G R h => ?_) (fun cdv A outer s H E hr =>
      (ss_cons (s_set 2 sc_law_purse.nd (e_bin x_add (e_bin x_mul (e_callB x_abs rfl T.b_abs (by decide +kernel) (a_cons (e_callB x_sum rfl T.b_sum (by decide +kernel) (a_cons (e_sl x_sl (ev 0) o_none (o_some e_int)) a_nil)) a_nil)) e_int) (e_bin x_mul e_int (ev 1))))
      (ss_cons (s_if (t_cmp (x_lt) (ev 1) (e_callB x_len rfl T.b_len (by decide +kernel) (a_cons (ev 0) a_nil)) (nomark _)) (ss_one (s_set 2 sc_law_purse.nd (e_callB x_abs rfl T.b_abs (by decide +kernel) (a_cons (e_ix x_ix (ev 0) (ev 1)) a_nil)))) ss_nil)
      (ss_cons (s_set 3 sc_law_purse.nd (e_bin x_mod (e_bin x_add (e_bin x_add (e_bin x_mul (e_bin x_mod (ev 2) e_int) e_int) (e_bin x_mul e_int (ev 1))) e_int) e_int))
      (ss_cons (s_set 3 sc_law_purse.nd (e_bin x_mod (e_bin x_mul (ev 3) (e_bin x_add (e_bin x_add (e_bin x_div (ev 3) e_int) (ev 1)) e_int)) e_int))
      (ss_one (s_ret (e_lst (a_cons (e_bin x_mul (ev 2) (e_callTy x_toInt rfl T.b_int (by decide +kernel) (a_cons (e_cmp (x_ge) (ev 2) (e_bin x_pow e_int e_int) (nomark _)) a_nil))) (a_cons (ev 3) a_nil)))))))))) (fun ds G R h => ?_)
  · obtain ⟨a, ns, k, rfl, _⟩ := h; rfl
  · obtain ⟨a, ns, k, rfl, ha, hl, hk, post⟩ := h
    dsimp! only [ha]
    intro p hp
    have hcut : cutD (ns.map D.int) none (some 63) = (ns.take 63).map .int := by
      have e : cutD (ns.map D.int) none (some 63) = ns.map D.int := by
        unfold cutD
        have h1 : HT.sIx (ns.map D.int).length 0 none = 0 := rfl
        have h2 : HT.sIx (ns.map D.int).length (ns.map D.int).length (some 63) = (ns.map D.int).length := by
          unfold HT.sIx
          rw [List.length_map]
          simp only []
          split <;> omega
        rw [h1, h2, Nat.sub_zero, List.drop_zero, List.take_length]
      rw [e, List.take_of_length_le (by omega)]
    rw [hcut]
    refine xsum_ints (by rw [gup_same]; rfl) ?_
    have g1 : Grow G (gup G p (.lst ((ns.take 63).map .int))) := Grow.refl.new hp
    obtain ⟨G1, hG1⟩ : ∃ G1, G1 = gup G p (.lst ((ns.take 63).map .int)) := ⟨_, rfl⟩
    rw [← hG1] at g1 ⊢
    have ha1 := seqOf_grow g1 ha
    dsimp! only [xAbs]
    refine ⟨cmul_r (by decide) (by decide), cmul_l (by decide) (by decide), ?_⟩
    (simp only [Go]; dsimp! only [ha1])
    generalize hN1 : Go (dSeq (dAsg (dOp (xIntC _ _) (dOp xAdd _ _) _) _) _ _) = N1
    have r1 : ∀ c : Int, 0 ≤ c → N1 [some (.ref a), some (.int (k : Int)), some (.int c), none] G1 := by
      intro c hc
      rw [← hN1]
      (simp only [Go]; dsimp! only [id])
      obtain ⟨e, he⟩ : ∃ e : Int, e = (c % 2147483629 * 48271 + 7919 * (k : Int) + 13) % 2147483629 := ⟨_, rfl⟩
      have e1 : 0 ≤ e := by rw [he]; exact Int.emod_nonneg _ (by decide)
      have e2 : e < 2147483629 := by rw [he]; exact Int.emod_lt_of_pos _ (by decide)
      refine ⟨by decide, cmul_r (by decide) (by decide), cmul_l (by decide) (by decide), by decide, ?_⟩
      rw [← he]
      (simp only [Go]; dsimp! only [id])
      have b1 := Int.ediv_nonneg e1 (b := 7) (by decide)
      have b2 : e / 7 ≤ e := Int.ediv_le_self _ e1
      obtain ⟨e', he'⟩ : ∃ e' : Int, e' = e * (e / 7 + (k : Int) + 1) % 2147483587 := ⟨_, rfl⟩
      have e3 : 0 ≤ e' := by rw [he']; exact Int.emod_nonneg _ (by decide)
      have e4 : e' < 2147483587 := by rw [he']; exact Int.emod_lt_of_pos _ (by decide)
      refine ⟨⟨by decide, by decide⟩, cmul_l e1 (by omega), by decide, ?_⟩
      rw [← he']
      have cp : CPow 10 18 := ⟨by decide, by decide, by decide⟩
      (simp only [Go]; dsimp! only [cp])
      refine ⟨?_, by decide, fun q hq => post q _ (g1.none hq) ⟨_, e', ?_, e3, by omega, gup_same⟩ (g1.new hq)⟩
      · split <;> exact cmul_r (by decide) (by decide)
      · split <;> omega
    refine ite_d (fun h0 => ?_) (fun _ => r1 _ (by split <;> omega))
    rw [List.length_map] at h0
    have hk2 : k < ns.length := by omega
    rw [show atI (ns.map D.int) (k : Int) = some (.int ns[k]) from atI_nat (by rw [List.getElem?_map, List.getElem?_eq_getElem hk2]; rfl)]
    dsimp! only [xAbs]
    exact r1 _ (by split <;> omega)
theorem ok_law_next {n : Nat} : Ok P w mg base (n + 1) T.f_law_next (S_law_next T) := by
  refine def_ok T.f_law_next sc_law_next (fun ds G R h => ?_) (fun cdv A outer s H E hr =>
      (ss_cons (s_if (t_cmp (x_gt) (e_ix x_ix (ev 0) e_int) e_int (nomark _)) (ss_cons (s_set 2 sc_law_next.nd (e_bin x_mod (e_ix x_ix (ev 0) e_int) (ev 1)))
      (ss_cons (s_asg (e_bin x_div (e_ix x_ix (ev 0) e_int) (ev 1)) (j_sub (ev 0) e_int x_set))
      (ss_one (s_ret (ev 2))))) ss_nil)
      (ss_cons (s_asg (e_bin x_mod (e_bin x_add (e_bin x_mul (e_ix x_ix (ev 0) e_int) e_int) e_int) e_int) (j_sub (ev 0) e_int x_set))
      (ss_one (s_ret (e_bin x_mod (e_bin x_mod (e_bin x_mul (e_ix x_ix (ev 0) e_int) (e_bin x_add (e_bin x_mod (e_ix x_ix (ev 0) e_int) e_int) e_int)) e_int) (ev 1))))))) (fun ds G R h => ?_)
  · obtain ⟨pr, m, rfl, _⟩ := h; rfl
  · obtain ⟨pr, m, rfl, ⟨x, y, hx, hy, hy2, hp⟩, h1, h2, post⟩ := h
    dsimp! only [hp]
    refine ite_d (fun h0 => ?_) (fun h0 => ?_)
    · dsimp! only [hp]
      refine ⟨by omega, ?_⟩
      (simp only [Go]; dsimp! only [hp])
      refine ⟨⟨by omega, by omega⟩, ?_⟩
      (simp only [Go]; dsimp! only [id])
      refine post (x % m) _ (Int.emod_nonneg _ (by omega)) (Int.emod_lt_of_pos _ (by omega)) ⟨⟨x / m, y, Int.ediv_nonneg hx (by omega), hy, hy2, gup_same⟩, fun c o hc e => by rw [gup_ne hc]; exact e⟩
    · (simp only [Go]; dsimp! only [hp])
      refine ⟨cmul_r (by decide) (by decide), by decide, ?_⟩
      obtain ⟨y', hy'⟩ : ∃ y' : Int, y' = (y * 69621 + 104729) % 2147483587 := ⟨_, rfl⟩
      have b1 : 0 ≤ y' := by rw [hy']; exact Int.emod_nonneg _ (by decide)
      have b2 : y' < 2147483587 := by rw [hy']; exact Int.emod_lt_of_pos _ (by decide)
      rw [← hy']
      (simp only [Go]; dsimp! only [gup_same])
      have b3 := Int.emod_nonneg y' (b := 16807) (by decide)
      have b4 := Int.emod_lt_of_pos y' (b := 16807) (by decide)
      refine ⟨by decide, cmul_r (by omega) (by omega), by decide, by omega, ?_⟩
      exact post _ _ (Int.emod_nonneg _ (by omega)) (Int.emod_lt_of_pos _ (by omega)) ⟨⟨x, y', hx, b1, by omega, gup_same⟩, fun c o hc e => by rw [gup_ne hc]; exact e⟩
theorem ok_law_names {n : Nat} (G_law_next : Ok P w mg base n T.f_law_next (S_law_next T)) : Ok P w mg base (n + 1) T.f_law_names (S_law_names T) := by
  refine def_ok T.f_law_names sc_law_names (fun ds G R h => ?_) (fun cdv A outer s H E hr =>
      (ss_cons (s_set 1 sc_law_names.nd e_str)
      (ss_cons (s_set 2 sc_law_names.nd (ec T.f_law_next T.g_law_next G_law_next hr (a_cons (ev 0) (a_cons e_int a_nil))))
      (ss_cons (s_set 3 sc_law_names.nd (e_bin x_add e_int (ec T.f_law_next T.g_law_next G_law_next hr (a_cons (ev 0) (a_cons (e_bin x_sub e_int (ev 2)) a_nil)))))
      (ss_cons (s_setC 4 sc_law_names.nd (N' := ["_law_k", "_law_abc", "_law_purse_here"]) (ix := [none, some 1, some 0]) (blk (osc := defScope s_law_names) (N := ["_law_purse_here", "_law_abc", "_law_longer", "_law_size", "_law_letters", "_law_spot", "_law_first", "_law_names_here", "_law_k", "_law_name", "_law_word"]) rfl rfl (by decide +kernel)) (i_rng1 rfl T.b_range (a_cons (ev 3) a_nil)) (fun _ _ _ _ => (j_name 0 (show (["_law_k", "_law_abc", "_law_purse_here"] : List Str).Nodup by decide +kernel))) (fun _ _ _ _ => ifs_nil) (fun _ _ _ _ => (e_ix x_ix (ev 1) (ec T.f_law_next T.g_law_next G_law_next hr (a_cons (ev 2) (a_cons e_int a_nil))))))
      (ss_cons (s_set 5 sc_law_names.nd (ec T.f_law_next T.g_law_next G_law_next hr (a_cons (ev 0) (a_cons (ev 3) a_nil))))
      (ss_cons (s_set 6 sc_law_names.nd (ec T.f_law_next T.g_law_next G_law_next hr (a_cons (ev 0) (a_cons e_int a_nil))))
      (ss_cons (s_set 7 sc_law_names.nd (e_lst a_nil))
      (ss_cons (s_for (i_rng1 rfl T.b_range (a_cons (e_bin x_add e_int (ec T.f_law_next T.g_law_next G_law_next hr (a_cons (ev 0) (a_cons e_int a_nil)))) a_nil)) (j_name 8 sc_law_names.nd) (ss_cons (s_asg (e_ix x_ix (ev 1) (e_bin x_mod (e_bin x_add (ev 6) (e_bin x_mul e_int (ev 8))) e_int)) (j_sub (ev 4) (ev 5) x_set))
      (ss_cons (s_set 9 sc_law_names.nd (e_bin x_add (e_join e_str (a_cons (ev 4) a_nil)) (e_bin x_mulS e_str (e_bin x_mul (ev 2) (e_bin x_mod (ev 8) e_int)))))
      (ss_cons (s_if (t_cmp (x_in hr) (ev 9) (e_tup (a_cons e_str (a_cons e_str (a_cons e_str (a_cons e_str (a_cons e_str (a_cons e_str a_nil))))))) (by with_unfolding_all rfl)) (ss_one (s_set 9 sc_law_names.nd (e_bin x_add (ev 9) e_str))) ss_nil)
      (ss_one (s_expr (e_append (ev 7) (a_cons (ev 9) a_nil))))))))
      (ss_cons (s_set 10 sc_law_names.nd (e_ix x_ix (e_lst (a_cons e_str (a_cons e_str (a_cons e_str (a_cons e_str (a_cons e_str (a_cons e_str (a_cons e_str (a_cons e_str (a_cons e_str (a_cons e_str a_nil))))))))))) (ec T.f_law_next T.g_law_next G_law_next hr (a_cons (ev 0) (a_cons e_int a_nil)))))
      (ss_cons (s_if (t_w (w_and (t_cmp (x_eq hr) (ec T.f_law_next T.g_law_next G_law_next hr (a_cons (ev 0) (a_cons e_int a_nil))) e_int (nomark _)) (w_and1 (t_cmp (x_notIn hr) (ev 10) (ev 7) (by with_unfolding_all rfl))))) (ss_one (s_asg (ev 10) (j_sub (ev 7) (e_un x_neg e_int) x_set))) ss_nil)
      (ss_one (s_ret (e_callTy x_toTuple rfl T.b_tuple (by decide +kernel) (a_cons (ev 7) a_nil))))))))))))))) (fun ds G R h => ?_)
  · obtain ⟨pr, rfl, _⟩ := h; rfl
  · obtain ⟨pr, rfl, P0, post⟩ := h
    dsimp! only [id]
    (simp only [Go]; dsimp! only [id])
    refine c_next T P0 (by decide) (by decide) fun lo G1 l1 l2 a1 => ?_
    dsimp! only [id]
    (simp only [Go]; dsimp! only [id])
    refine c_next T a1.at_ (by omega) (by omega) fun x G2 x1 x2 a2 => ?_
    obtain ⟨sz, hsz⟩ : ∃ sz : Nat, 1 + x = (sz : Int) := ⟨(1 + x).toNat, by omega⟩
    have A2 := a1.trans a2
    dsimp! only [hsz]
    (simp only [Go]; dsimp! only [id])
    refine ⟨by omega, fun p hp => ?_⟩
    have npr := A2.at_.ne hp
    have fp : G p = none := A2.fresh hp npr
    have abc : ∀ i : Int, 0 ≤ i → i < 26 → ∃ c, atI (Str.ofString "abcdefghijklmnopqrstuvwxyz").cps.toList i = some c := fun i h1 h2 => ⟨_, atI_int h1 (by exact h2)⟩
    have hab : (Str.ofString "abcdefghijklmnopqrstuvwxyz").length ≤ sizeLine := by decide
    generalize hN1 : Go (dSeq _ _ _) = N1
    refine compL_ind (fun r σ G' => ∃ (j c : Nat) (ws : List Str) (v : Option D), j + c = sz ∧ r = rngD (j : Int) c ∧ PAdv pr G G' ∧ G' p = some (.lst (ws.map .str)) ∧ ws.length = j ∧ (∀ w ∈ ws, w.length = 1 ∧ ltr w = true) ∧ σ = [v, some (.str (Str.ofString "abcdefghijklmnopqrstuvwxyz")), some (.ref pr)]) ⟨0, sz, [], none, by omega, rfl, A2.grow (Grow.refl.new hp), gup_same, rfl, by simp, rfl⟩ ?_ ?_
    · rintro σ G3 ⟨j, c, ws, v, e, e2, A3, k3, hl, hw, rfl⟩
      have hc0 : c = 0 := by
        cases c with
        | zero => rfl
        | succ n => rw [rngD_succ] at e2; cases e2
      refine ⟨trivial, ?_⟩
      rw [← hN1]
      (simp only [Go]; dsimp! only [id])
      refine c_next T A3.at_ (by omega) (by omega) fun sp G4 s1 s2 a4 => ?_
      have A4 := A3.trans a4
      have k4 := a4.kp _ _ npr k3
      dsimp! only [id]
      (simp only [Go]; dsimp! only [id])
      refine c_next T A4.at_ (by decide) (by decide) fun fi G5 f1 f2 a5 => ?_
      have A5 := A4.trans a5
      have k5 := a5.kp _ _ npr k4
      dsimp! only [id]
      (simp only [Go]; dsimp! only [id])
      refine ⟨by decide, fun q hq => ?_⟩
      have nq := A5.at_.ne hq
      have fq : G q = none := A5.fresh hq nq
      have npq : p ≠ q := gne k5 hq
      have A6 := A5.grow (Grow.refl.new (o := .lst []) hq)
      have k6 : gup G5 q (.lst []) p = some (.lst (ws.map .str)) := by rw [gup_ne npq]; exact k5
      (simp only [Go]; dsimp! only [id])
      refine c_next T A6.at_ (by decide) (by decide) fun m G7 m1 m2 a7 => ?_
      have A7 := A6.trans a7
      have k7 := a7.kp _ _ npr k6
      have kq7 := a7.kp _ _ nq gup_same
      obtain ⟨mm, hmm⟩ : ∃ mm : Nat, 1 + m = (mm : Int) := ⟨(1 + m).toNat, by omega⟩
      dsimp! only [hmm]
      refine ⟨by omega, ?_⟩
      generalize hN2 : Go (dSeq _ _ _) = N2
      refine forL_ind (fun r σ G' => ∃ (i c : Nat) (ws bs : List Str) (v8 v9 : Option D), i + c = mm ∧ r = rngD (i : Int) c ∧ PAdv pr G G' ∧ G' p = some (.lst (ws.map .str)) ∧ G' q = some (.lst (bs.map .str)) ∧ ws.length = sz ∧ (∀ w ∈ ws, w.length = 1 ∧ ltr w = true) ∧ bs.length = i ∧ (∀ b ∈ bs, nmB b = true) ∧ (∀ (t : Nat) (b : Str), bs[t]? = some b → b.cps[sp.toNat]? = some (97 + ((fi + 5 * (t : Int)) % 26).toNat)) ∧ σ = [some (.ref pr), some (.str (Str.ofString "abcdefghijklmnopqrstuvwxyz")), some (.int lo), some (.int (sz : Int)), some (.ref p), some (.int sp), some (.int fi), some (.ref q), v8, v9, none]) ⟨0, mm, ws, [], none, none, by omega, rfl, A7, k7, kq7, by omega, hw, rfl, by simp, by simp, rfl⟩ ?_ ?_
      · rintro σ G8 ⟨i, c, ws, bs, v8, v9, e, e2, A8, k8, kq8, hl, hw, hbl, hb, hat, rfl⟩
        have hc0 : c = 0 := by
          cases c with
          | zero => rfl
          | succ n => rw [rngD_succ] at e2; cases e2
        refine ⟨trivial, ?_⟩
        rw [← hN2]
        (simp only [Go]; dsimp! only [id])
        refine ⟨by decide, fun p3 hp3 => ?_⟩
        have n3 := A8.at_.ne hp3
        obtain ⟨wl, hwl⟩ : ∃ wl : List Str, wl = [Str.ofString "ends", Str.ofString "elseif", Str.ofString "wider", Str.ofString "boxesa", Str.ofString "timesx", Str.ofString "chooser", Str.ofString "is", Str.ofString "op", Str.ofString "en", Str.ofString "tim"] := ⟨_, rfl⟩
        have hwb : ∀ w ∈ wl, nmB w = true := by rw [hwl]; decide +kernel
        have hwn : wl.length = 10 := by rw [hwl]; rfl
        rw [show [D.str (Str.ofString "ends"), D.str (Str.ofString "elseif"), D.str (Str.ofString "wider"), D.str (Str.ofString "boxesa"), D.str (Str.ofString "timesx"), D.str (Str.ofString "chooser"), D.str (Str.ofString "is"), D.str (Str.ofString "op"), D.str (Str.ofString "en"), D.str (Str.ofString "tim")] = wl.map D.str by rw [hwl]; rfl]
        have A9 := A8.grow (Grow.refl.new (o := .lst (wl.map .str)) hp3)
        refine c_next T A9.at_ (by decide) (by decide) fun t1 G10 u1 u2 a10 => ?_
        have A10 := A9.trans a10
        have k10 := a10.kp _ _ n3 gup_same
        have kq10 := a10.kp _ _ nq (by rw [gup_ne (gne kq8 hp3)]; exact kq8)
        obtain ⟨wd, hwd, hwm⟩ : ∃ wd, atI (wl.map D.str) t1 = some (.str wd) ∧ nmB wd = true := by
          have hlt : t1.toNat < wl.length := by omega
          refine ⟨wl[t1.toNat], ?_, hwb _ (List.getElem_mem hlt)⟩
          have := atI_map (f := D.str) (xs := wl) u1 (by omega)
          exact this
        dsimp! only [k10, hwd]
        (simp only [Go]; dsimp! only [id])
        generalize hN3 : Go (dRet (dCB xToTuple _) _) = N3
        have r3 : ∀ (bs : List Str) (G11 : Gp), PAdv pr G G11 → G11 q = some (.lst (bs.map .str)) → 1 ≤ bs.length → bs.length ≤ 6 → (∀ b ∈ bs, nmB b = true) → bs.Nodup → N3 [some (.ref pr), some (.str (Str.ofString "abcdefghijklmnopqrstuvwxyz")), some (.int lo), some (.int (sz : Int)), some (.ref p), some (.int sp), some (.int fi), some (.ref q), v8, v9, some (.str wd)] G11 := by
          intro bs G11 A11 kq11 h1 h2 hb hnd
          rw [← hN3]
          (simp only [Go]; dsimp! only [kq11])
          exact post bs _ h1 h2 hb hnd A11
        have hnd := nodup_at (by omega) hat
        refine c_next T A10.at_ (by decide) (by decide) fun t2 G12 w1 w2 a12 => ?_
        have A12 := A10.trans a12
        have kq12 := a12.kp _ _ nq kq10
        have hso : ∀ l : List Str, strsOf (l.map D.str) = some l := by
          intro l
          induction l with
          | nil => rfl
          | cons w l ih => show (strsOf (l.map D.str)).map (w :: ·) = _; rw [ih]; rfl
        dsimp! only [id]
        refine ite_d (fun _ => ?_) (fun _ => r3 bs G12 A12 kq12 (by omega) (by omega) hb hnd)
        unfold xInB
        simp only [kq12, seqOf, hso]
        dsimp! only [kq12]
        by_cases hwin : wd ∈ bs
        · rw [if_neg (by simp [hwin])]
          exact r3 bs G12 A12 kq12 (by omega) (by omega) hb hnd
        rw [if_pos (by simp [hwin])]
        have hix : ixN (bs.map D.str).length (-1) = some (bs.length - 1) := by
          unfold ixN
          rw [List.length_map, if_neg (by decide), if_pos (by omega)]
          congr 1
          omega
        rw [hix]
        refine r3 (bs.set (bs.length - 1) wd) _ (A12.own fq nq) (by rw [gup_same, List.map_set]) (by rw [List.length_set]; omega) (by rw [List.length_set]; omega) (fun b hb' => ?_) (nodup_set _ hnd hwin)
        rcases List.mem_or_eq_of_mem_set hb' with h | h
        · exact hb b h
        · rw [h]; exact hwm
      · rintro z r σ G8 ⟨i, c, ws, bs, v8, v9, e, e2, A8, k8, kq8, hl, hw, hbl, hb, hat, rfl⟩ ih
        cases c with
        | zero => cases e2
        | succ c =>
          rw [rngD_succ] at e2
          cases e2
          refine ⟨trivial, ?_⟩
          dsimp! only [id]
          have hch := abc_at (x := (fi + 5 * (i : Int)) % 26) (Int.emod_nonneg _ (by decide)) (Int.emod_lt_of_pos _ (by decide))
          generalize hch2 : 97 + ((fi + 5 * (i : Int)) % 26).toNat = ch at hch
          refine ⟨cmul_l (by decide) (by decide), by decide, hab, ?_⟩
          rw [hch]
          have hix : ixN (ws.map D.str).length sp = some sp.toNat := ixN_int s1 (by rw [List.length_map]; omega)
          dsimp! only [k8, hix]
          obtain ⟨ws2, hws2⟩ : ∃ ws2, ws2 = ws.set sp.toNat ⟨#[ch]⟩ := ⟨_, rfl⟩
          have hset : (ws.map D.str).set sp.toNat (.str ⟨#[ch]⟩) = ws2.map .str := by rw [hws2, List.map_set]
          have hl2 : ws2.length = sz := by rw [hws2, List.length_set]; exact hl
          have hw3 : ∀ w ∈ ws2, w.length = 1 ∧ ltr w = true := by
            intro w hw'
            rw [hws2] at hw'
            rcases List.mem_or_eq_of_mem_set hw' with h | h
            · exact hw w h
            · rw [h]; exact ⟨rfl, ltr_one ⟨by omega, by omega⟩⟩
          have hw2 : ∀ w ∈ ws2, w.length = 1 := fun w h => (hw3 w h).1
          rw [hset]
          obtain ⟨G9, hG9⟩ : ∃ G9, G9 = gup G8 p (.lst (ws2.map .str)) := ⟨_, rfl⟩
          have A9 : PAdv pr G G9 := by rw [hG9]; exact A8.own fp npr
          have k9 : G9 p = some (.lst (ws2.map .str)) := by rw [hG9, gup_same]
          have kq9 : G9 q = some (.lst (bs.map .str)) := by rw [hG9, gup_ne (Ne.symm npq)]; exact kq8
          rw [← hG9]
          have hsum : (ws2.map Str.length).sum = sz := by
            have : ∀ l : List Str, (∀ w ∈ l, w.length = 1) → (l.map Str.length).sum = l.length := by
              intro l
              induction l with
              | nil => intro _; rfl
              | cons w l ih => intro h; rw [List.map_cons, List.sum_cons, h w (List.mem_cons_self ..), ih fun v hv => h v (List.mem_cons_of_mem _ hv), List.length_cons]; omega
            rw [this ws2 hw2, hl2]
          have hjl : (jn Str.empty ws2).length = sz := by rw [jn_len, hsum]
          have hfold : Builtin.Str.tooLong ((ws2.toArray).foldl (· + ·.length + Str.empty.length) 0) = false := by
            have : ∀ (l : List Str) (n : Nat), (∀ w ∈ l, w.length = 1) → l.foldl (· + ·.length + Str.empty.length) n = n + l.length := by
              intro l
              induction l with
              | nil => intro n _; rfl
              | cons w l ih => intro n h; rw [List.foldl_cons, ih _ fun v hv => h v (List.mem_cons_of_mem _ hv), h w (List.mem_cons_self ..), List.length_cons]; show n + 1 + 0 + l.length = _; omega
            rw [List.foldl_toArray, this ws2 0 hw2, hl2]
            unfold Builtin.Str.tooLong
            exact decide_eq_false (Nat.not_lt.mpr (Nat.le_of_lt (Nat.lt_of_le_of_lt (m := 1000) (by omega) (by decide))))
          (simp only [Go]; dsimp! only [id])
          refine ⟨Str.empty, p, ws2, rfl, rfl, by rw [k9]; rfl, hfold, by rw [hjl]; exact Nat.le_of_lt (Nat.lt_of_le_of_lt (m := 1000) (by omega) (by decide)), ?_⟩
          dsimp! only [id]
          refine ⟨by decide, cmul_l l1 (by omega), Str.ofString "a", lo * ((i : Int) % 2), rfl, rfl, ?_, ?_⟩
          · have h1 : lo = 0 ∨ lo = 1 := by omega
            have h2 : (i : Int) % 2 = 0 ∨ (i : Int) % 2 = 1 := by omega
            rcases h1 with h1 | h1 <;> rcases h2 with h2 | h2 <;> simp [h1, h2]
          obtain ⟨sa, hsa, hsal, hsl⟩ : ∃ sa : Str, (if lo * ((i : Int) % 2) = 0 then Str.empty else Str.ofString "a") = sa ∧ (sa.length : Int) ≤ lo ∧ ltr sa = true := by
            refine ⟨_, rfl, ?_, ?_⟩
            · by_cases h1 : lo = 0
              · rw [if_pos (by rw [h1, Int.zero_mul]), h1]; decide
              · have h2 : lo = 1 := by omega
                rw [h2]; split <;> decide
            · split <;> decide
          rw [hsa]
          have happ : ∀ a b : Str, (a ++ b).length = a.length + b.length := fun a b => by
            show (a.cps ++ b.cps).size = _
            rw [Array.size_append]; rfl
          dsimp! only [id]
          refine ⟨Nat.le_of_lt (Nat.lt_of_le_of_lt (m := 1000) (by rw [hjl]; omega) (by decide)), ?_⟩
          obtain ⟨nm, hnm⟩ : ∃ nm, nm = jn Str.empty ws2 ++ sa := ⟨_, rfl⟩
          have hnl : nm.length ≤ 8 := by rw [hnm, happ, hjl]; omega
          have hnl1 : 1 ≤ nm.length := by rw [hnm, happ, hjl]; omega
          have hnlt : ltr nm = true := by rw [hnm, ltr_app, ltr_jn ws2 fun w h => (hw3 w h).2, hsl]; rfl
          rw [← hnm]
          (simp only [Go]; dsimp! only [id])
          generalize hN4 : Go (dDrop (dBM "list" mAppend (dVar 7) _) _) = N4
          have hj0 : (jn Str.empty ws2).cps[sp.toNat]? = some ch := jn_at hw2 (by rw [hws2, List.getElem?_set_self (by omega)])
          have r4 : ∀ nm : Str, nmB nm = true → nm.cps[sp.toNat]? = some ch → N4 [some (.ref pr), some (.str (Str.ofString "abcdefghijklmnopqrstuvwxyz")), some (.int lo), some (.int (sz : Int)), some (.ref p), some (.int sp), some (.int fi), some (.ref q), some (.int (i : Int)), some (.str nm), none] G9 := by
            intro nm hnm hcp
            rw [← hN4]
            (simp only [Go]; dsimp! only [kq9])
            refine ⟨by rw [List.length_map]; exact Nat.lt_of_le_of_lt (m := 4000) (by omega) (by decide), ih _ _ ⟨i + 1, c, ws2, bs ++ [nm], _, _, by omega, by congr 1, A9.own fq nq, by rw [gup_ne npq]; exact k9, by rw [gup_same, List.map_append]; rfl, hl2, hw3, by simp [hbl], ?_, ?_, rfl⟩⟩
            rotate_left
            · intro t b hb'
              rcases Nat.lt_or_ge t bs.length with z | z
              · rw [List.getElem?_append_left z] at hb'
                exact hat t b hb'
              · rw [List.getElem?_append_right z] at hb'
                have z2 : t = bs.length := by
                  have := (List.getElem?_eq_some_iff.mp hb').1
                  simp at this
                  omega
                subst z2
                have e3 : nm = b := by simpa using hb'
                rw [← e3, hcp, ← hch2, hbl]
            intro b hb'
            rcases List.mem_append.mp hb' with h | h
            · exact hb b h
            · rw [List.mem_singleton.mp h]; exact hnm
          refine ⟨by decide, ?_⟩
          refine ite_d (fun hin => ?_) (fun hin => r4 nm (nm_of hnl1 hnl hin hnlt) (by rw [hnm]; exact app_at hj0))
          refine ⟨Nat.le_of_lt (Nat.lt_of_le_of_lt (m := 1000) (by have : (Str.ofString "q").length = 1 := rfl; omega) (by decide)), ?_⟩
          exact r4 _ (nm_q hin) (app_at (by rw [hnm]; exact app_at hj0))
    · rintro z r σ G3 ⟨j, c, ws, v, e, e2, A3, k3, hl, hw, rfl⟩ ih
      cases c with
      | zero => cases e2
      | succ c =>
        rw [rngD_succ] at e2
        cases e2
        refine ⟨trivial, ?_⟩
        dsimp! only [id]
        refine c_next T A3.at_ (by decide) (by decide) fun y G4 y1 y2 a4 => ?_
        have hch := abc_at y1 y2
        generalize hch2 : 97 + y.toNat = ch at hch
        have k4 := a4.kp _ _ npr k3
        dsimp! only [id]
        refine ⟨hab, ?_⟩
        rw [hch]
        dsimp! only [k4]
        refine ⟨by rw [List.length_map]; exact Nat.lt_of_le_of_lt (m := 4000) (by omega) (by decide), ih _ _ ⟨j + 1, c, ws ++ [⟨#[ch]⟩], _, by omega, by congr 1, (A3.trans a4).own fp npr, by rw [gup_same, List.map_append]; rfl, by simp [hl], ?_, rfl⟩⟩
        intro w hw'
        rcases List.mem_append.mp hw' with h | h
        · exact hw w h
        · rw [List.mem_singleton.mp h]; exact ⟨rfl, ltr_one ⟨by omega, by omega⟩⟩
theorem ok_law_number {n : Nat} (G_law_next : Ok P w mg base n T.f_law_next (S_law_next T)) : Ok P w mg base (n + 1) T.f_law_number (S_law_number T) := by
  refine def_ok T.f_law_number sc_law_number (fun ds G R h => ?_) (fun cdv A outer s H E hr =>
      (ss_one (s_ret (e_bin x_mod (e_ix x_ix (e_lst (a_cons e_int (a_cons e_int (a_cons (e_bin x_sub (e_bin x_shl e_int (ev 1)) e_int) (a_cons (ec T.f_law_next T.g_law_next G_law_next hr (a_cons (ev 0) (a_cons (e_bin x_shl e_int (ev 1)) a_nil))) a_nil))))) (ec T.f_law_next T.g_law_next G_law_next hr (a_cons (ev 0) (a_cons e_int a_nil)))) (e_bin x_shl e_int (ev 1)))))) (fun ds G R h => ?_)
  · obtain ⟨pr, W, rfl, _⟩ := h; rfl
  · obtain ⟨pr, W, rfl, P0, hW, post⟩ := h
    have cw : CPow 1 (W : Int) := cpow_1 (by omega) (by omega)
    have hp1 : (2 : Nat) ^ W ≤ 2 ^ 16 := Nat.pow_le_pow_right (by decide) hW
    have hp0 : 1 ≤ (2 : Nat) ^ W := Nat.one_le_two_pow
    have ew : (1 : Int) * 2 ^ W = ((2 ^ W : Nat) : Int) := by simp
    dsimp! only [id]
    refine ⟨cw, cw, ?_⟩
    rw [ew]
    refine c_next T P0 (by omega) (by omega) fun x G1 x1 x2 a1 => ?_
    dsimp! only [id]
    refine ⟨by decide, fun p hp => ?_⟩
    have n1 := a1.at_.ne hp
    have A2 := a1.grow (Grow.refl.new (o := .lst [.int 0, .int 1, .int (((2 ^ W : Nat) : Int) - 1), .int x]) hp)
    refine c_next T A2.at_ (by decide) (by decide) fun y G2 y1 y2 a2 => ?_
    have k2 := a2.kp _ _ n1 gup_same
    obtain ⟨v, hv⟩ : ∃ v : Int, atI [D.int 0, .int 1, .int (((2 ^ W : Nat) : Int) - 1), .int x] y = some (.int v) := by
      have : y = 0 ∨ y = 1 ∨ y = 2 ∨ y = 3 := by omega
      rcases this with e | e | e | e <;> subst e
      · exact ⟨_, rfl⟩
      · exact ⟨_, rfl⟩
      · exact ⟨_, rfl⟩
      · exact ⟨_, rfl⟩
    dsimp! only [k2, hv]
    refine ⟨cw, ?_⟩
    try rw [ew]
    have b1 := Int.emod_nonneg v (b := ((2 ^ W : Nat) : Int)) (by omega)
    have b2 := Int.emod_lt_of_pos v (b := ((2 ^ W : Nat) : Int)) (by omega)
    obtain ⟨i, hi⟩ := Int.eq_ofNat_of_zero_le b1
    rw [hi] at b2 ⊢
    exact ⟨by omega, post i _ (by omega) (A2.trans a2)⟩
theorem ok_law_atom {n : Nat} (G_law_next : Ok P w mg base n T.f_law_next (S_law_next T)) (G_law_number : Ok P w mg base n T.f_law_number (S_law_number T)) : Ok P w mg base (n + 1) T.f_law_atom (S_law_atom T) := by
  refine def_ok T.f_law_atom sc_law_atom (fun ds G R h => ?_) (fun cdv A outer s H E hr =>
      (ss_cons (s_if (t_cmp (x_eq hr) (ec T.f_law_next T.g_law_next G_law_next hr (a_cons (ev 0) (a_cons e_int a_nil))) e_int (nomark _)) (ss_one (s_ret (ec T.f_law_number T.g_law_number G_law_number hr (a_cons (ev 0) (a_cons (ev 1) a_nil))))) ss_nil)
      (ss_one (s_ret (e_ix x_ix (ev 2) (ec T.f_law_next T.g_law_next G_law_next hr (a_cons (ev 0) (a_cons (e_callB x_len rfl T.b_len (by decide +kernel) (a_cons (ev 2) a_nil)) a_nil)))))))) (fun ds G R h => ?_)
  · obtain ⟨pr, W, bs, rfl, _⟩ := h; rfl
  · obtain ⟨pr, W, bs, rfl, P0, hW, hb1, hb2, post⟩ := h
    dsimp! only [id]
    refine c_next T P0 (by decide) (by decide) fun x G1 _ _ a1 => ?_
    dsimp! only [id]
    refine ite_d (fun _ => ?_) (fun _ => ?_)
    · refine c_number T a1.at_ hW fun i G2 hi a2 => ?_
      exact post (.num i) _ hi (a1.trans a2)
    · (simp only [Go]; dsimp! only [List.length_map])
      refine c_next T a1.at_ (by omega) (by omega) fun y G2 y1 y2 a2 => ?_
      obtain ⟨j, rfl⟩ := Int.eq_ofNat_of_zero_le y1
      have hj : j < bs.length := by omega
      have hat : atI (bs.map D.str) (j : Int) = some (.str bs[j]) := atI_nat (by rw [List.getElem?_map, List.getElem?_eq_getElem hj]; rfl)
      dsimp! only [hat]
      exact post (.box bs[j]) _ (List.getElem_mem hj) (a1.trans a2)
theorem ok_law_set {n : Nat} (G_law_next : Ok P w mg base n T.f_law_next (S_law_next T)) (G_law_atom : Ok P w mg base n T.f_law_atom (S_law_atom T)) : Ok P w mg base (n + 1) T.f_law_set (S_law_set T) := by
  refine def_ok T.f_law_set sc_law_set (fun ds G R h => ?_) (fun cdv A outer s H E hr =>
      (ss_cons (s_set 3 sc_law_set.nd (e_ix x_ix (ev 2) (ec T.f_law_next T.g_law_next G_law_next hr (a_cons (ev 0) (a_cons (e_callB x_len rfl T.b_len (by decide +kernel) (a_cons (ev 2) a_nil)) a_nil)))))
      (ss_cons (s_set 4 sc_law_set.nd (ec T.f_law_atom T.g_law_atom G_law_atom hr (a_cons (ev 0) (a_cons (ev 1) (a_cons (ev 2) a_nil)))))
      (ss_cons (s_if (t_cmp (x_eq hr) (ec T.f_law_next T.g_law_next G_law_next hr (a_cons (ev 0) (a_cons e_int a_nil))) e_int (nomark _)) (ss_one (s_ret (e_tup (a_cons e_str (a_cons (ev 3) (a_cons (ev 4) a_nil)))))) ss_nil)
      (ss_one (s_ret (e_tup (a_cons e_str (a_cons (ev 3) (a_cons (e_ix x_ix e_str (ec T.f_law_next T.g_law_next G_law_next hr (a_cons (ev 0) (a_cons e_int a_nil)))) (a_cons (ev 4) (a_cons (ec T.f_law_atom T.g_law_atom G_law_atom hr (a_cons (ev 0) (a_cons (ev 1) (a_cons (ev 2) a_nil)))) a_nil)))))))))))) (fun ds G R h => ?_)
  · obtain ⟨pr, W, bs, rfl, _⟩ := h; rfl
  · obtain ⟨pr, W, bs, rfl, P0, hW, hb1, hb2, post⟩ := h
    dsimp! only [List.length_map]
    refine c_next T P0 (by omega) (by omega) fun y G1 y1 y2 a1 => ?_
    obtain ⟨j, rfl⟩ := Int.eq_ofNat_of_zero_le y1
    have hj : j < bs.length := by omega
    have hat : atI (bs.map D.str) (j : Int) = some (.str bs[j]) := atI_nat (by rw [List.getElem?_map, List.getElem?_eq_getElem hj]; rfl)
    have hmem := List.getElem_mem hj
    dsimp! only [hat]
    (simp only [Go]; dsimp! only [id])
    refine c_atom T a1.at_ hW hb1 hb2 fun a G2 ha a2 => ?_
    have A2 := a1.trans a2
    dsimp! only [id]
    (simp only [Go]; dsimp! only [id])
    refine c_next T A2.at_ (by decide) (by decide) fun x G3 _ _ a3 => ?_
    have A3 := A2.trans a3
    dsimp! only [id]
    refine ite_d (fun _ => ?_) (fun _ => ?_)
    · dsimp! only [id]
      exact ⟨by decide, post (.is bs[j] a) _ ⟨hmem, ha⟩ rfl rfl rfl A3⟩
    · (simp only [Go]; dsimp! only [id])
      refine c_next T A3.at_ (by decide) (by decide) fun z G4 z1 z2 a4 => ?_
      have A4 := A3.trans a4
      obtain ⟨o, ho, hs⟩ : ∃ o : Nat, atI (Str.ofString "+-&|^<=").cps.toList z = some o ∧ (⟨#[o]⟩ : Str) ∈ signs := by
        have : z = 0 ∨ z = 1 ∨ z = 2 ∨ z = 3 ∨ z = 4 ∨ z = 5 ∨ z = 6 := by omega
        rcases this with e | e | e | e | e | e | e <;> subst e <;> exact ⟨_, rfl, by decide⟩
      dsimp! only [id]
      refine ⟨by decide, ?_⟩
      rw [ho]
      dsimp! only [id]
      refine c_atom T A4.at_ hW hb1 hb2 fun b G5 hb a5 => ?_
      dsimp! only [id]
      exact ⟨by decide, post (.op bs[j] ⟨#[o]⟩ a b) _ ⟨hmem, hs, ha, hb⟩ rfl rfl rfl (A4.trans a5)⟩
theorem ok_law_shut {n : Nat} : Ok P w mg base (n + 1) T.f_law_shut (S_law_shut T) := by
  refine def_ok T.f_law_shut sc_law_shut (fun ds G R h => ?_) (fun cdv A outer s H E hr =>
      (ss_cons (s_asg (e_pop0 (ev 0)) (j_seq (n := 3) rfl (js_cons (j_name 2 sc_law_shut.nd) (js_cons (j_name 3 sc_law_shut.nd) (js_cons (j_name 4 sc_law_shut.nd) js_nil)))))
      (ss_cons (s_if (t_w (w_and (t_cmp (x_eq hr) (e_ix x_ix (ev 3) e_int) e_str (nomark _)) (w_and1 (t_cmp (x_eq hr) (e_callB x_len rfl T.b_len (by decide +kernel) (a_cons (ev 3) a_nil)) e_int (nomark _))))) (ss_cons (s_expr (e_append (ev 0) (a_cons (e_tup (a_cons (ev 2) (a_cons (e_bin x_add (ev 3) (e_tup (a_cons (e_callTy x_toTuple rfl T.b_tuple (by decide +kernel) (a_cons (ev 1) a_nil)) a_nil))) (a_cons (ev 4) a_nil)))) a_nil)))
      (ss_one (s_ret (e_lst a_nil)))) ss_nil)
      (ss_one (s_ret (e_bin x_add (ev 2) (e_lst (a_cons (e_bin x_add (ev 3) (e_tup (a_cons (e_callTy x_toTuple rfl T.b_tuple (by decide +kernel) (a_cons (ev 1) a_nil)) a_nil))) a_nil)))))))) (fun ds G R h => ?_)
  · obtain ⟨op, rh, f, fs, rows, rfl, _⟩ := h; rfl
  · obtain ⟨op, rh, f, fs, rows, rfl, h1, h2, h3, h4, h5, h6, post⟩ := h
    obtain ⟨p, ahead, hd, o⟩ := f
    have nop : ∀ {c : Addr} {xs : List Rowp}, G c = some (.lst (rowsD xs)) → c ≠ op := by
      intro c xs hc e
      rw [e, h1] at hc
      have hh : (fs.map frD).reverse ++ [frD ⟨p, ahead, hd, o⟩] = rowsD xs := by injection hc with hc; injection hc
      rw [rowsD_map] at hh
      have hm : frD ⟨p, ahead, hd, o⟩ ∈ xs.map rowD := by rw [← hh]; simp
      obtain ⟨r, _, hr⟩ := List.mem_map.mp hm
      cases r <;> simp [rowD, frD] at hr
    have hl : ∀ {A : List D} {x : D}, (A ++ [x])[(A ++ [x]).length - 1]? = some x := by
      intro A x
      rw [List.length_append, List.length_singleton, Nat.add_sub_cancel, List.getElem?_append_right (Nat.le_refl _), Nat.sub_self]
      rfl
    have hdl : ∀ {A : List D} {x : D}, (A ++ [x]).dropLast = A := fun {A x} => by simp
    have nrh := nop h3
    have np := nop h2
    have k3 : ∀ {o : DO}, gup G op o rh = some (.lst (rowsD rows)) := fun {o} => by rw [gup_ne nrh]; exact h3
    have k2 : ∀ {o : DO}, gup G op o p = some (.lst (rowsD ahead)) := fun {o} => by rw [gup_ne np]; exact h2
    have hA : ((fs.map frD).reverse).length ≤ 100 := by rw [List.length_reverse, List.length_map]; exact h4
    have h6' : ahead.length ≤ 1000 := h6
    have hrl := rowsD_len rows
    have hal := rowsD_len ahead
    obtain ⟨A, eA⟩ : ∃ A, A = (fs.map frD).reverse := ⟨_, rfl⟩
    rw [← eA] at h1 hA
    dsimp! only [h1, mPop0]
    rw [hl, hdl]
    have hkp : ∀ {q : Addr} {o1 o2 : DO} {G1 : Gp}, gup G op o1 q = none → Kp op G G1 → Kp op G (gup G1 q o2) := by
      intro q o1 o2 G1 hq hk c u hc e
      have nq : c ≠ q := fun h => by rw [← h, gup_ne hc, e] at hq; cases hq
      rw [gup_ne nq]
      exact hk c u hc e
    have hk0 : ∀ {o1 : DO}, Kp op G (gup G op o1) := fun {o1} c u hc e => by rw [gup_ne hc]; exact e
    have fr0 : ∀ {q : Addr} {o1 : DO}, gup G op o1 q = none → q ≠ op ∧ G q = none := by
      intro q o1 hq
      have nq : q ≠ op := fun h => by rw [h, gup_same] at hq; cases hq
      exact ⟨nq, by rw [gup_ne nq] at hq; exact hq⟩
    cases hd with
    | c1 a =>
      dsimp! only [frD, hdD, k3, gup_same]
      (simp only [Go]; dsimp! only [k3, gup_same])
      rw [if_pos (by decide)]
      refine ⟨by decide, by simp, (show 2 + 1 ≤ sizeLine by decide), by decide, ?_⟩
      dsimp! only [gup_same]
      refine ⟨Nat.lt_of_le_of_lt (m := 1000) (by omega) (by decide), ?_⟩
      rw [gup_gup]
      (simp only [Go]; dsimp! only [id])
      refine ⟨by decide, fun q hq => ?_⟩
      obtain ⟨nq, fq⟩ := fr0 hq
      refine post q _ fq (by rw [gup_same]; rfl) ?_ (hkp hq hk0)
      rw [gup_ne (Ne.symm nq), gup_same, eA]
      simp [shF, frD, hdD]
    | c2 a ys =>
      dsimp! only [frD, hdD, k3, gup_same]
      (simp only [Go]; dsimp! only [k3, gup_same])
      rw [if_neg (by decide)]
      (simp only [Go]; dsimp! only [k3])
      refine ⟨by decide, by simp, (show 3 + 1 ≤ sizeLine by decide), by decide, fun p1 hp1 => ?_⟩
      obtain ⟨n1, f1⟩ := fr0 hp1
      refine xadd_lst (by rw [gup_ne (gne k2 hp1)]; exact k2) gup_same (by rw [hal]; exact Nat.le_of_lt (Nat.lt_of_le_of_lt (m := 2000) (by show ahead.length + 1 ≤ 2000; omega) (by decide))) fun q hq => ?_
      have nq1 : q ≠ p1 := fun h => by rw [h, gup_same] at hq; cases hq
      rw [gup_ne nq1] at hq
      obtain ⟨nq, fq⟩ := fr0 hq
      refine post q _ fq ?_ ?_ (hkp hq (hkp hp1 hk0))
      · rw [gup_same]
        show _ = some (DO.lst (rowsD (ahead ++ [.cho a ys rows])))
        rw [rowsD_app]; rfl
      · rw [gup_ne (Ne.symm nq), gup_ne (Ne.symm n1), gup_same, eA]
        rfl
    | tm k =>
      dsimp! only [frD, hdD, k3, gup_same]
      (simp only [Go]; dsimp! only [k3, gup_same])
      rw [if_neg (by decide)]
      (simp only [Go]; dsimp! only [k3])
      refine ⟨by decide, by simp, (show 2 + 1 ≤ sizeLine by decide), by decide, fun p1 hp1 => ?_⟩
      obtain ⟨n1, f1⟩ := fr0 hp1
      refine xadd_lst (by rw [gup_ne (gne k2 hp1)]; exact k2) gup_same (by rw [hal]; exact Nat.le_of_lt (Nat.lt_of_le_of_lt (m := 2000) (by show ahead.length + 1 ≤ 2000; omega) (by decide))) fun q hq => ?_
      have nq1 : q ≠ p1 := fun h => by rw [h, gup_same] at hq; cases hq
      rw [gup_ne nq1] at hq
      obtain ⟨nq, fq⟩ := fr0 hq
      refine post q _ fq ?_ ?_ (hkp hq (hkp hp1 hk0))
      · rw [gup_same]
        show _ = some (DO.lst (rowsD (ahead ++ [.tim k rows])))
        rw [rowsD_app]; rfl
      · rw [gup_ne (Ne.symm nq), gup_ne (Ne.symm n1), gup_same, eA]
        rfl
theorem ok_law_rows {n : Nat} (G_law_purse : Ok P w mg base n T.f_law_purse (S_law_purse T)) (G_law_next : Ok P w mg base n T.f_law_next (S_law_next T)) (G_law_atom : Ok P w mg base n T.f_law_atom (S_law_atom T)) (G_law_set : Ok P w mg base n T.f_law_set (S_law_set T)) (G_law_shut : Ok P w mg base n T.f_law_shut (S_law_shut T)) : Ok P w mg base (n + 1) T.f_law_rows (S_law_rows T) := by
  refine def_ok T.f_law_rows sc_law_rows (fun ds G R h => ?_) (fun cdv A outer s H E hr =>
      (ss_cons (s_set 4 sc_law_rows.nd (e_lst a_nil))
      (ss_cons (s_set 5 sc_law_rows.nd (e_lst a_nil))
      (ss_cons (s_set 6 sc_law_rows.nd e_int)
      (ss_cons (s_set 7 sc_law_rows.nd e_int)
      (ss_cons (s_for (i_rng1 rfl T.b_range (a_cons (ev 3) a_nil)) (j_name 8 sc_law_rows.nd) (ss_cons (s_set 9 sc_law_rows.nd (ec T.f_law_purse T.g_law_purse G_law_purse hr (a_cons (ev 0) (a_cons (e_bin x_add e_int (ev 8)) a_nil))))
      (ss_cons (s_set 10 sc_law_rows.nd (ec T.f_law_next T.g_law_next G_law_next hr (a_cons (ev 9) (a_cons e_int a_nil))))
      (ss_one (s_if (t_w (w_and (t_cmp (x_gt) (ev 10) e_int (nomark _)) (w_and (t_cmp (x_lt) (e_callB x_len rfl T.b_len (by decide +kernel) (a_cons (ev 4) a_nil)) e_int (nomark _)) (w_and1 (t_cmp (x_ge) (ev 7) (ev 6) (nomark _)))))) (ss_cons (s_set 11 sc_law_rows.nd (e_tup (a_cons e_str (a_cons (ec T.f_law_atom T.g_law_atom G_law_atom hr (a_cons (ev 9) (a_cons (ev 1) (a_cons (ev 2) a_nil)))) a_nil))))
      (ss_cons (s_set 7 sc_law_rows.nd (e_bin x_sub (ev 7) (ev 6)))
      (ss_cons (s_if (t_cmp (x_eq hr) (ev 10) e_int (nomark _)) (ss_cons (s_set 12 sc_law_rows.nd (e_ix x_ix (e_lst (a_cons e_int (a_cons e_int (a_cons e_int (a_cons e_int (a_cons e_int (a_cons (ec T.f_law_next T.g_law_next G_law_next hr (a_cons (ev 9) (a_cons e_int a_nil))) a_nil))))))) (ec T.f_law_next T.g_law_next G_law_next hr (a_cons (ev 9) (a_cons e_int a_nil)))))
      (ss_one (s_set 11 sc_law_rows.nd (e_tup (a_cons e_str (a_cons (e_ix x_ix (e_lst (a_cons e_int (a_cons (ev 12) a_nil))) (e_callTy x_toInt rfl T.b_int (by decide +kernel) (a_cons (e_cmp (x_le) (e_bin x_mul (ev 6) (ev 12)) (ev 7) (nomark _)) a_nil))) a_nil)))))) ss_nil)
      (ss_cons (s_expr (e_append (ev 4) (a_cons (e_tup (a_cons (ev 5) (a_cons (ev 11) (a_cons (ev 6) a_nil)))) a_nil)))
      (ss_cons (s_set 6 sc_law_rows.nd (e_bin x_mul (ev 6) (e_ix x_ix (e_lst (a_cons e_int (a_cons (e_ix x_ix (ev 11) e_int) a_nil))) (e_callTy x_toInt rfl T.b_int (by decide +kernel) (a_cons (e_cmp (x_eq hr) (ev 10) e_int (nomark _)) a_nil)))))
      (ss_one (s_set 5 sc_law_rows.nd (e_lst a_nil)))))))) (ss_one (s_if (t_w (w_and (t_cmp (x_eq hr) (ev 10) e_int (nomark _)) (w_and1 (t_cmp (x_ne hr) (ev 4) (e_lst a_nil) (nomark _))))) (ss_cons (s_set 6 sc_law_rows.nd (e_ix x_ix (e_ix x_ix (ev 4) (e_un x_neg e_int)) e_int))
      (ss_one (s_set 5 sc_law_rows.nd (ec T.f_law_shut T.g_law_shut G_law_shut hr (a_cons (ev 4) (a_cons (ev 5) a_nil)))))) (ss_one (s_if (t_cmp (x_ge) (ev 7) (ev 6) (nomark _)) (ss_cons (s_expr (e_append (ev 5) (a_cons (ec T.f_law_set T.g_law_set G_law_set hr (a_cons (ev 9) (a_cons (ev 1) (a_cons (ev 2) a_nil)))) a_nil)))
      (ss_one (s_set 7 sc_law_rows.nd (e_bin x_sub (ev 7) (ev 6))))) ss_nil)))))))))
      (ss_cons (s_while (t_cmp (x_ne hr) (ev 4) (e_lst a_nil) (nomark _)) (ss_one (s_set 5 sc_law_rows.nd (ec T.f_law_shut T.g_law_shut G_law_shut hr (a_cons (ev 4) (a_cons (ev 5) a_nil))))))
      (ss_one (s_ret (e_callTy x_toTuple rfl T.b_tuple (by decide +kernel) (a_cons (ev 5) a_nil))))))))))) (fun ds G R h => ?_)
  · obtain ⟨a, ns, W, bs, most, rfl, _⟩ := h; rfl
  · obtain ⟨a, ns, W, bs, most, rfl, ha, hl, hW, hb1, hb2, hm, post⟩ := h
    dsimp! only [id]
    refine ⟨by decide, fun op hop => ?_⟩
    (simp only [Go]; dsimp! only [id])
    refine ⟨by decide, fun rh0 hrh0 => ?_⟩
    (simp only [Go]; dsimp! only [id])
    (simp only [Go]; dsimp! only [id])
    (simp only [Go]; dsimp! only [id])
    refine ⟨by omega, ?_⟩
    have n0 : rh0 ≠ op := fun e => by rw [e, gup_same] at hrh0; cases hrh0
    have f0 : G rh0 = none := by rw [gup_ne n0] at hrh0; exact hrh0
    generalize hN1 : Go (dSeq (dWhile _ _) _ _) = N1
    refine forL_ind (fun r σ G' => ∃ (j c : Nat) (fs : List Fr) (rows : List Rowp) (rh : Addr) (o lf w z : Nat) (v8 v9 v10 v11 v12 : Option D), j + c = most ∧ r = rngD (j : Int) c ∧ Grow G G' ∧ G' op = some (.lst ((fs.map frD).reverse)) ∧ G' rh = some (.lst (rowsD rows)) ∧ G rh = none ∧ rh ≠ op ∧ (∀ f ∈ fs, G' f.p = some (.lst (rowsD f.ahead)) ∧ f.p ≠ rh ∧ f.p ≠ op) ∧ SK W bs fs o rows w z ∧ w + lf ≤ 120 ∧ z ≤ j ∧ σ = [some (.ref a), some (.int (W : Int)), some (.tup (bs.map .str)), some (.int (most : Int)), some (.ref op), some (.ref rh), some (.int (o : Int)), some (.int (lf : Int)), v8, v9, v10, v11, v12]) ⟨0, most, [], [], rh0, 1, 120, 0, 0, none, none, none, none, none, by omega, rfl, (Grow.refl.new hop).new hrh0, by rw [gup_ne (Ne.symm n0), gup_same]; rfl, gup_same, f0, n0, fun f hf => (by cases hf), ⟨rfl, rfl, rfl, Nat.zero_le _, trivial⟩, by omega, by omega, rfl⟩ ?_ ?_
    · rintro σ G1 ⟨j, c, fs, rows, rh, o, lf, w, z, v8, v9, v10, v11, v12, e, e2, g1, ko, kr, fr, nr, hf, hS, hw, hz, rfl⟩
      have hc0 : c = 0 := by
        cases c with
        | zero => rfl
        | succ n => rw [rngD_succ] at e2; cases e2
      refine ⟨trivial, ?_⟩
      rw [← hN1]
      (simp only [Go]; dsimp! only [id])
      refine while_ind (fun m σ G' => ∃ (fs : List Fr) (rows : List Rowp) (rh : Addr) (o' : Nat), msF fs ≤ m ∧ Grow G G' ∧ G' op = some (.lst ((fs.map frD).reverse)) ∧ G' rh = some (.lst (rowsD rows)) ∧ rh ≠ op ∧ (∀ f ∈ fs, G' f.p = some (.lst (rowsD f.ahead)) ∧ f.p ≠ op) ∧ SK W bs fs o' rows w z ∧ σ = [some (.ref a), some (.int (W : Int)), some (.tup (bs.map .str)), some (.int (most : Int)), some (.ref op), some (.ref rh), some (.int (o : Int)), some (.int (lf : Int)), v8, v9, v10, v11, v12])
        (m := msF fs) ⟨fs, rows, rh, o, Nat.le_refl _, g1, ko, kr, nr, fun f h => ⟨(hf f h).1, (hf f h).2.2⟩, hS, rfl⟩ ?_
      rintro m σ G2 N ⟨fs, rows, rh, o', hm2, g2, ko, kr, nr, hf, hS, rfl⟩ ih
      dsimp! only [id]
      refine ⟨by decide, fun e1 he1 => ?_⟩
      have gE : Grow G2 (gup G2 e1 (.lst [])) := Grow.refl.new he1
      have hd := hS.dep
      have hln := hS.len
      have hfl := hS.fl
      refine cmp_frames (gE.kp _ _ ko) gup_same (fun f h => ⟨gE.kp _ _ (hf f h).1, hd.2 f h⟩) ?_
      dsimp! only [id]
      cases fs with
      | nil =>
        dsimp! only [id]
        have kr2 := gE.kp _ _ kr
        (simp only [Go]; dsimp! only [kr2, seqOf])
        obtain ⟨_, s2, s3, s4, s5⟩ := hS
        exact post rows _ s5 s4 (by omega) (by omega) (g2.trans gE)
      | cons f fs =>
        dsimp! only [id]
        have hls : fs.length + 1 ≤ 5 := hfl
        refine c_shut T (f := f) (fs := fs) (rows := rows) (by rw [gE.kp _ _ ko]; simp) (gE.kp _ _ (hf f (List.mem_cons_self)).1) (gE.kp _ _ kr) (by omega) (by have := hln.1; omega) (by have := hln.2 f List.mem_cons_self; omega) fun q G3 f3 kq ko3 kp3 => ?_
        dsimp! only [id]
        have hms := msF_shut (f := f) (fs := fs) (rows := rows)
        obtain ⟨m', rfl⟩ : ∃ m', m = m' + 1 := ⟨m - 1, by omega⟩
        have nopG : ∀ {c o}, G c = some o → c ≠ op := fun h e => by rw [e, hop] at h; cases h
        have nq : q ≠ op := fun e => by rw [e, gE.kp _ _ ko] at f3; cases f3
        refine ih _ _ m' rfl ⟨(shF f fs rows).1, (shF f fs rows).2, q, f.o, by omega, ⟨fun c o h => kp3 c o (nopG h) (gE.kp _ _ (g2.kp _ _ h))⟩, ko3, kq, nq, fun g hg => ?_, hS.shut, rfl⟩
        rcases shF_mem g hg with ⟨e1, e2⟩ | h
        · have := hf f List.mem_cons_self
          rw [e1, e2]
          exact ⟨kp3 _ _ this.2 (gE.kp _ _ this.1), this.2⟩
        · have := hf g (List.mem_cons_of_mem _ h)
          exact ⟨kp3 _ _ this.2 (gE.kp _ _ this.1), this.2⟩
    · rintro zz r σ G1 ⟨j, c, fs, rows, rh, o, lf, w, z, v8, v9, v10, v11, v12, e, e2, g1, ko, kr, fr, nr, hf, hS, hw, hz, rfl⟩ ih
      cases c with
      | zero => cases e2
      | succ c =>
        rw [rngD_succ] at e2
        cases e2
        refine ⟨trivial, ?_⟩
        have ej : (6 : Int) + (j : Int) = ((6 + j : Nat) : Int) := by omega
        dsimp! only [ej]
        refine c_purse T (seqOf_grow g1 ha) hl (by omega) fun pr G2 f2 P2 g2 => ?_
        dsimp! only [id]
        (simp only [Go]; dsimp! only [id])
        refine c_next T P2 (by decide) (by decide) fun wy G3 y1 y2 a3 => ?_
        have g3 := PAdv.back g2 f2 a3
        dsimp! only [id]
        have ko3 := g3.kp _ _ ko
        have kr3 := g3.kp _ _ kr
        have npr : ∀ c o, G1 c = some o → c ≠ pr := fun c o h e => by rw [e, f2] at h; cases h
        (simp only [Go]; dsimp! only [ko3, seqOf])
        refine comb (fun h7 h5 hlo => ?_) (fun _ => ?_)
        · generalize hFL : forL _ _ _ _ (rngD ((j : Int) + 1) c) = FL at ih ⊢
          refine c_atom T a3.at_ hW hb1 hb2 fun at_ G4 hat a4 => ?_
          have g4 := PAdv.back g2 f2 (a3.trans a4)
          have elo : (lf : Int) - (o : Int) = ((lf - o : Nat) : Int) := by omega
          refine ⟨by decide, ?_⟩
          (simp only [Go]; dsimp! only [elo])
          (simp only [Go]; dsimp! only [id])
          generalize hNC : Go (dSeq (dDrop _) _ _) = NC
          have h5' : fs.length < 5 := by rw [List.length_reverse, List.length_map] at h5; omega
          have rC : ∀ (hd : Hd) (G5 : Gp) (v12 : Option D) (hy : (wy = 9 ∧ ∃ k, hd = .tm k) ∨ (¬ wy = 9 ∧ ∃ a, hd = .c1 a)), hd.ok W bs → hd.ys = [] → w + o * hd.wt + (lf - o) ≤ 120 → Grow G1 G5 → NC [some (.ref a), some (.int (W : Int)), some (.tup (bs.map .str)), some (.int (most : Int)), some (.ref op), some (.ref rh), some (.int (o : Int)), some (.int ((lf - o : Nat) : Int)), some (.int (j : Int)), some (.ref pr), some (.int wy), some (hdD hd), v12] G5 := by
            intro hd G5 v12 hy hok hys hwt g5
            rw [← hNC]
            have ko5 := g5.kp _ _ ko
            have kr5 := g5.kp _ _ kr
            (simp only [Go]; dsimp! only [ko5])
            refine ⟨by decide, Nat.lt_of_le_of_lt (m := 1000) (by rw [List.length_reverse, List.length_map]; omega) (by decide), ?_⟩
            have fin_ : ∀ (G6 : Gp) (q : Addr), Grow (gup G5 op (.lst ((fs.map frD).reverse ++ [frD ⟨rh, rows, hd, o⟩]))) G6 → G6 q = none → FL [some (.ref a), some (.int (W : Int)), some (.tup (bs.map .str)), some (.int (most : Int)), some (.ref op), some (.ref q), some (.int ((o * hd.mul : Nat) : Int)), some (.int ((lf - o : Nat) : Int)), some (.int (j : Int)), some (.ref pr), some (.int wy), some (hdD hd), v12] (gup G6 q (.lst [])) := by
              intro G6 q g6 hq
              have ko6 := g6.kp op _ gup_same
              have nq : q ≠ op := fun e => by rw [e, ko6] at hq; cases hq
              have k6 : ∀ {c' o'}, G5 c' = some o' → c' ≠ op → G6 c' = some o' := fun {c' o'} h1 h2 => g6.kp _ _ (by rw [gup_ne h2]; exact h1)
              have kq : ∀ {c' o'}, G5 c' = some o' → c' ≠ op → gup G6 q (.lst []) c' = some o' := fun {c' o'} h1 h2 => by rw [gup_ne (gne (k6 h1 h2) hq)]; exact k6 h1 h2
              refine ih _ _ ⟨j + 1, c, ⟨rh, rows, hd, o⟩ :: fs, [], q, o * hd.mul, lf - o, w + o * hd.wt, z + 1, _, _, _, _, _, by omega, by rw [Int.natCast_add]; rfl, ⟨fun c' o' h => kq (g5.kp _ _ (g1.kp _ _ h)) fun e => by rw [e, hop] at h; cases h⟩, ?_, gup_same, ?_, nq, fun f hf' => ?_, hS.open_ h5' hok hys, by omega, by omega, rfl⟩
              · rw [gup_ne (Ne.symm nq), ko6]; simp
              · exact noneOf hop (fun c' o' h n => k6 (g5.kp _ _ (g1.kp _ _ h)) n) nq hq
              · rcases List.mem_cons.mp hf' with e | e
                · subst e; exact ⟨kq kr5 nr, gne (k6 kr5 nr) hq, nr⟩
                · obtain ⟨q1, q2, q3⟩ := hf f e
                  have q4 := g5.kp _ _ q1
                  exact ⟨kq q4 q3, gne (k6 q4 q3) hq, q3⟩
            rcases hy with ⟨hy, k, rfl⟩ | ⟨hy, at2, rfl⟩
            · subst hy
              (simp only [Go]; dsimp! only [hdD, gup_same])
              refine ⟨by decide, fun p hp => ?_⟩
              dsimp! only [gup_same]
              refine ⟨.inl ⟨by omega, by omega⟩, ?_⟩
              (simp only [Go]; dsimp! only [id])
              refine ⟨by decide, fun q hq => ?_⟩
              exact fin_ _ q (Grow.refl.new hp) hq
            · have d9 := decide_eq_false hy
              (simp only [Go]; dsimp! only [hdD, d9, gup_same])
              refine ⟨by decide, fun p hp => ?_⟩
              dsimp! only [gup_same]
              refine ⟨.inl ⟨by omega, by omega⟩, ?_⟩
              (simp only [Go]; dsimp! only [id])
              refine ⟨by decide, fun q hq => ?_⟩
              exact fin_ _ q (Grow.refl.new hp) hq
          refine ite_d (fun h9 => ?_) (fun h9 => rC (.c1 at_) G4 v12 (.inr ⟨h9, at_, rfl⟩) hat rfl (by show w + o * 1 + (lf - o) ≤ 120; omega) g4)
          refine c_next T a4.at_ (by decide) (by decide) fun d1 G5 d11 d12 a5 => ?_
          refine ⟨by decide, fun p hp => ?_⟩
          have np : p ≠ pr := a5.at_.ne hp
          have g5 : Grow G5 (gup G5 p (.lst [.int 0, .int 1, .int 2, .int 3, .int 4, .int d1])) := Grow.refl.new hp
          refine c_next T (a5.at_.grow g5) (by decide) (by decide) fun d2 G6 d21 d22 a6 => ?_
          have kp6 := a6.kp p _ np gup_same
          have g6 := PAdv.back g2 f2 (((a3.trans a4).trans a5).grow g5 |>.trans a6)
          obtain ⟨k, hk, hk2⟩ : ∃ k : Nat, atI [D.int 0, .int 1, .int 2, .int 3, .int 4, .int d1] d2 = some (.int (k : Int)) ∧ k ≤ 20 := by
            obtain ⟨d1, rfl⟩ := Int.eq_ofNat_of_zero_le d11
            have : d2 = 0 ∨ d2 = 1 ∨ d2 = 2 ∨ d2 = 3 ∨ d2 = 4 ∨ d2 = 5 := by omega
            rcases this with rfl | rfl | rfl | rfl | rfl | rfl
            · exact ⟨0, rfl, by omega⟩
            · exact ⟨1, rfl, by omega⟩
            · exact ⟨2, rfl, by omega⟩
            · exact ⟨3, rfl, by omega⟩
            · exact ⟨4, rfl, by omega⟩
            · exact ⟨d1, rfl, by omega⟩
          dsimp! only [kp6, hk]
          (simp only [Go]; dsimp! only [id])
          refine ⟨by decide, fun p' hp' => ⟨.inl ⟨by omega, by omega⟩, ?_⟩⟩
          by_cases ho : (o : Int) * (k : Int) ≤ ((lf - o : Nat) : Int)
          · rw [decide_eq_true ho]
            exact ⟨by decide, rC (.tm k) _ _ (.inl ⟨h9, k, rfl⟩) hk2 rfl (by show w + o * 0 + (lf - o) ≤ 120; omega) (g6.new hp')⟩
          · rw [decide_eq_false ho]
            exact ⟨by decide, rC (.tm 1) _ _ (.inl ⟨h9, 1, rfl⟩) (by show 1 ≤ 20; decide) rfl (by show w + o * 0 + (lf - o) ≤ 120; omega) (g6.new hp')⟩
        · refine ite_d (fun h7 => ?_) (fun _ => ?_)
          · refine ⟨by decide, fun e1 he1 => ?_⟩
            have gE : Grow G3 (gup G3 e1 (.lst [])) := Grow.refl.new he1
            have hdp := hS.dep
            refine cmp_frames (gE.kp _ _ ko3) gup_same (fun f h => ⟨gE.kp _ _ (g3.kp _ _ (hf f h).1), hdp.2 f h⟩) ?_
            by_cases hfs : fs.length = 0
            · rw [decide_eq_true hfs]
              dsimp! only [id]
              have aE := a3.grow gE
              refine ite_d (fun hlo => ?_) (fun hlo => ?_)
              · have gX := PAdv.back g2 f2 aE
                have krX := gX.kp _ _ kr
                refine ⟨by simp only [krX], ?_⟩
                refine c_set T aE.at_ hW hb1 hb2 fun r G6 okr wr1 zr1 dr1 a6 => ?_
                have g6 := PAdv.back g2 f2 (aE.trans a6)
                have kr6 := g6.kp _ _ kr
                have hll := hS.len
                dsimp! only [kr6]
                refine ⟨Nat.lt_of_le_of_lt (m := 1000) (by rw [rowsD_len]; have := hll.1; omega) (by decide), ?_⟩
                have elo : (lf : Int) - (o : Int) = ((lf - o : Nat) : Int) := by omega
                (simp only [Go]; dsimp! only [elo])
                refine ih _ _ ⟨j + 1, c, fs, rows ++ [r], rh, o, lf - o, w + o, z + 1, _, _, _, _, _, by omega, by rw [Int.natCast_add]; rfl, ⟨fun c' o' h => ?_⟩, ?_, ?_, fr, nr, fun f hf' => ?_, hS.row okr wr1 zr1 dr1, by omega, by omega, rfl⟩
                · have : c' ≠ rh := fun e => by rw [e, fr] at h; cases h
                  rw [gup_ne this]
                  exact g6.kp _ _ (g1.kp _ _ h)
                · rw [gup_ne (Ne.symm nr)]
                  exact g6.kp _ _ ko
                · rw [gup_same, rowsD_app]; rfl
                · obtain ⟨q1, q2, q3⟩ := hf f hf'
                  rw [gup_ne q2]
                  exact ⟨g6.kp _ _ q1, q2, q3⟩
              · dsimp! only [id]
                have g6 := PAdv.back g2 f2 aE
                exact ih _ _ ⟨j + 1, c, fs, rows, rh, o, lf, w, z, _, _, _, _, _, by omega, by rw [Int.natCast_add]; rfl, g1.trans g6, g6.kp _ _ ko, g6.kp _ _ kr, fr, nr, fun f hf' => ⟨g6.kp _ _ (hf f hf').1, (hf f hf').2⟩, hS, by omega, by omega, rfl⟩
            · rw [decide_eq_false hfs]
              obtain ⟨f, fs', rfl⟩ : ∃ f fs', fs = f :: fs' := by
                cases fs with
                | nil => exact absurd rfl hfs
                | cons f fs' => exact ⟨f, fs', rfl⟩
              have hrev : ((f :: fs').map frD).reverse = (fs'.map frD).reverse ++ [frD f] := by simp
              have ko4 := gE.kp _ _ ko3
              rw [hrev] at ko4
              have hat : atI ((fs'.map frD).reverse ++ [frD f]) (-1) = some (frD f) := at_lastD _ _
              have hln := hS.len
              have hfl := hS.fl
              have hls : fs'.length + 1 ≤ 5 := hfl
              dsimp! only [ko4, hat]
              dsimp! only [frD]
              (simp only [Go]; dsimp! only [id])
              refine c_shut T (f := f) (fs := fs') (rows := rows) ko4 (gE.kp _ _ (g3.kp _ _ (hf f List.mem_cons_self).1)) (gE.kp _ _ kr3) (by omega) (by have := hln.1; omega) (by have := hln.2 f List.mem_cons_self; omega) fun q G4 f4 kq ko5 kp4 => ?_
              dsimp! only [id]
              have k4 : ∀ c o, G1 c = some o → c ≠ op → G4 c = some o := fun c o h n => kp4 c o n (gE.kp _ _ (g3.kp _ _ h))
              have nq : q ≠ op := fun e => by rw [e, ko4] at f4; cases f4
              refine ih _ _ ⟨j + 1, c, (shF f fs' rows).1, (shF f fs' rows).2, q, f.o, lf, w, z, _, _, _, _, _, by omega, by rw [Int.natCast_add]; rfl, ⟨fun c o h => k4 c o (g1.kp _ _ h) fun e => by rw [e, hop] at h; cases h⟩, ko5, kq, ?_, nq, fun g hg => ?_, hS.shut, by omega, by omega, rfl⟩
              · exact (g1.trans (g3.trans gE)).none f4
              · have kk : ∀ g ∈ f :: fs', G4 g.p = some (.lst (rowsD g.ahead)) ∧ g.p ≠ q ∧ g.p ≠ op := fun g hg => by
                  obtain ⟨q1, q2, q3⟩ := hf g hg
                  exact ⟨k4 _ _ q1 q3, gne (gE.kp _ _ (g3.kp _ _ q1)) f4, q3⟩
                rcases shF_mem g hg with ⟨e1, e2⟩ | h
                · rw [e1, e2]; exact kk f List.mem_cons_self
                · exact kk g (List.mem_cons_of_mem _ h)
          · skip
            refine ite_d (fun hlo => ?_) (fun hlo => ?_)
            · have gX := PAdv.back g2 f2 a3
              have krX := gX.kp _ _ kr
              refine ⟨by simp only [krX], ?_⟩
              refine c_set T a3.at_ hW hb1 hb2 fun r G6 okr wr1 zr1 dr1 a6 => ?_
              have g6 := PAdv.back g2 f2 (a3.trans a6)
              have kr6 := g6.kp _ _ kr
              have hll := hS.len
              dsimp! only [kr6]
              refine ⟨Nat.lt_of_le_of_lt (m := 1000) (by rw [rowsD_len]; have := hll.1; omega) (by decide), ?_⟩
              have elo : (lf : Int) - (o : Int) = ((lf - o : Nat) : Int) := by omega
              (simp only [Go]; dsimp! only [elo])
              refine ih _ _ ⟨j + 1, c, fs, rows ++ [r], rh, o, lf - o, w + o, z + 1, _, _, _, _, _, by omega, by rw [Int.natCast_add]; rfl, ⟨fun c' o' h => ?_⟩, ?_, ?_, fr, nr, fun f hf' => ?_, hS.row okr wr1 zr1 dr1, by omega, by omega, rfl⟩
              · have : c' ≠ rh := fun e => by rw [e, fr] at h; cases h
                rw [gup_ne this]
                exact g6.kp _ _ (g1.kp _ _ h)
              · rw [gup_ne (Ne.symm nr)]
                exact g6.kp _ _ ko
              · rw [gup_same, rowsD_app]; rfl
              · obtain ⟨q1, q2, q3⟩ := hf f hf'
                rw [gup_ne q2]
                exact ⟨g6.kp _ _ q1, q2, q3⟩
            · dsimp! only [id]
              have g6 := PAdv.back g2 f2 a3
              exact ih _ _ ⟨j + 1, c, fs, rows, rh, o, lf, w, z, _, _, _, _, _, by omega, by rw [Int.natCast_add]; rfl, g1.trans g6, g6.kp _ _ ko, g6.kp _ _ kr, fr, nr, fun f hf' => ⟨g6.kp _ _ (hf f hf').1, (hf f hf').2⟩, hS, by omega, by omega, rfl⟩
theorem ok_law_program {n : Nat} (G_law_purse : Ok P w mg base n T.f_law_purse (S_law_purse T)) (G_law_next : Ok P w mg base n T.f_law_next (S_law_next T)) (G_law_names : Ok P w mg base n T.f_law_names (S_law_names T)) (G_law_rows : Ok P w mg base n T.f_law_rows (S_law_rows T)) : Ok P w mg base (n + 1) T.f_law_program (S_law_program T) := by
  refine def_ok T.f_law_program sc_law_program (fun ds G R h => ?_) (fun cdv A outer s H E hr =>
      (ss_cons (s_set 1 sc_law_program.nd (ec T.f_law_purse T.g_law_purse G_law_purse hr (a_cons (ev 0) (a_cons e_int a_nil))))
      (ss_cons (s_set 2 sc_law_program.nd (e_bin x_add e_int (ec T.f_law_next T.g_law_next G_law_next hr (a_cons (ev 1) (a_cons e_int a_nil)))))
      (ss_cons (s_set 3 sc_law_program.nd (ec T.f_law_names T.g_law_names G_law_names hr (a_cons (ec T.f_law_purse T.g_law_purse G_law_purse hr (a_cons (ev 0) (a_cons e_int a_nil))) a_nil)))
      (ss_cons (s_set 4 sc_law_program.nd (e_callB x_max2 rfl T.b_max (by decide +kernel) (a_cons (e_callB x_len rfl T.b_len (by decide +kernel) (a_cons (e_sl x_sl (ev 0) (o_some e_int) (o_some e_int)) a_nil)) (a_cons (e_bin x_add e_int (ec T.f_law_next T.g_law_next G_law_next hr (a_cons (ev 1) (a_cons e_int a_nil)))) a_nil))))
      (ss_cons (s_if (t_cmp (x_eq hr) (ec T.f_law_next T.g_law_next G_law_next hr (a_cons (ev 1) (a_cons e_int a_nil))) e_int (nomark _)) (ss_one (s_set 4 sc_law_program.nd (ec T.f_law_next T.g_law_next G_law_next hr (a_cons (ev 1) (a_cons e_int a_nil))))) ss_nil)
      (ss_one (s_ret (e_tup (a_cons (ev 2) (a_cons (ev 3) (a_cons (ec T.f_law_rows T.g_law_rows G_law_rows hr (a_cons (ev 0) (a_cons (ev 2) (a_cons (ev 3) (a_cons (ev 4) a_nil))))) a_nil)))))))))))) (fun ds G R h => ?_)
  · obtain ⟨a, ns, rfl, _⟩ := h; rfl
  · obtain ⟨a, ns, rfl, ha, hl, post⟩ := h
    dsimp! only [id]
    refine c_purse T (k := 0) ha hl (by decide) fun p1 G1 f1 P1 g1 => ?_
    dsimp! only [id]
    (simp only [Go]; dsimp! only [id])
    refine c_next T P1 (by decide) (by decide) fun x G2 x1 x2 a2 => ?_
    have g2 := PAdv.back g1 f1 a2
    obtain ⟨W, hW⟩ : ∃ W : Nat, 1 + x = (W : Int) := ⟨(1 + x).toNat, by omega⟩
    dsimp! only [hW]
    (simp only [Go]; dsimp! only [id])
    refine c_purse T (k := 1) (seqOf_grow g2 ha) hl (by decide) fun p2 G3 f3 P3 g3 => ?_
    dsimp! only [id]
    have np : p2 ≠ p1 := a2.at_.ne f3
    refine call_nd (post := fun d G' => ∃ bs : List Str, d = .tup (bs.map .str) ∧ 1 ≤ bs.length ∧ bs.length ≤ 6 ∧ (∀ b ∈ bs, nmB b = true) ∧ bs.Nodup ∧ PAdv p2 G3 G') (fun R h => ⟨p2, rfl, P3, fun bs G' z1 z2 z3 z4 z5 => h _ _ ⟨bs, rfl, z1, z2, z3, z4, z5⟩⟩) ?_
    rintro _ G4 ⟨bs, rfl, hb1, hb2, hb3, hnd, a4⟩
    have g24 := PAdv.back g3 f3 a4
    have P4 := a2.at_.grow g24
    have g4 := g2.trans g24
    dsimp! only [id]
    (simp only [Go]; dsimp! only [seqOf_grow g4 ha])
    have hcl : (cutD (ns.map D.int) (some 6) (some 57)).length ≤ 57 := by
      unfold cutD
      rw [List.length_take]
      refine Nat.le_trans (Nat.min_le_left _ _) (Nat.le_trans (Nat.sub_le _ _) ?_)
      unfold HT.sIx
      simp only []
      split <;> omega
    obtain ⟨L, hL⟩ : ∃ L, L = (cutD (ns.map D.int) (some 6) (some 57)).length := ⟨_, rfl⟩
    rw [← hL] at hcl ⊢
    intro p hp
    have g5 : Grow G4 (gup G4 p (.lst (cutD (ns.map D.int) (some 6) (some 57)))) := Grow.refl.new hp
    refine c_next T (P4.grow g5) (by decide) (by decide) fun y G6 y1 y2 a6 => ?_
    have g6 := PAdv.back (g4.trans g5) f1 a6
    dsimp! only [id]
    obtain ⟨many, hmany, hm2⟩ : ∃ many : Nat, (if 3 + y > (L : Int) then 3 + y else (L : Int)) = (many : Int) ∧ many ≤ 57 := by
      refine ⟨(max (3 + y) (L : Int)).toNat, ?_, by omega⟩
      split <;> omega
    rw [hmany]
    (simp only [Go]; dsimp! only [id])
    generalize hN1 : Go (dRet (dTup _) _) = N1
    have r1 : ∀ (most : Nat) (G7 : Gp), most ≤ 60 → Grow G G7 → N1 [some (.ref a), some (.ref p1), some (.int (W : Int)), some (.tup (bs.map .str)), some (.int (most : Int))] G7 := by
      intro most G7 hmo g7
      rw [← hN1]
      (simp only [Go]; dsimp! only [id])
      refine call_nd (post := fun d G' => ∃ rows : List Rowp, d = .tup (rowsD rows) ∧ okL W bs rows ∧ depL rows ≤ 5 ∧ wtL rows ≤ 120 ∧ szL rows ≤ 60 ∧ Grow G7 G') (fun R h => ⟨a, ns, W, bs, most, rfl, seqOf_grow g7 ha, hl, by omega, hb1, hb2, hmo, fun rows G' z1 z2 z3 z4 z5 => h _ _ ⟨rows, rfl, z1, z2, z3, z4, z5⟩⟩) ?_
      rintro _ G8 ⟨rows, rfl, z1, z2, z3, z4, z5⟩
      dsimp! only [id]
      exact ⟨by decide, post W bs rows _ (by omega) (by omega) hb1 hb2 hb3 hnd z1 z2 z3 z4 (g7.trans z5)⟩
    refine c_next T a6.at_ (by decide) (by decide) fun t G9 t1 t2 a9 => ?_
    have g9 := PAdv.back g6 f1 a9
    dsimp! only [id]
    refine ite_d (fun _ => ?_) (fun _ => r1 many G9 (by omega) g9)
    refine c_next T a9.at_ (by decide) (by decide) fun u G10 u1 u2 a10 => ?_
    obtain ⟨un, rfl⟩ := Int.eq_ofNat_of_zero_le u1
    dsimp! only [id]
    exact r1 un G10 (by omega) (PAdv.back g9 f1 a10)
theorem ok_law_text {n : Nat} (G_law_next : Ok P w mg base n T.f_law_next (S_law_next T)) : Ok P w mg base (n + 1) T.f_law_text (S_law_text T) := by
  refine def_ok T.f_law_text sc_law_text (fun ds G R h => ?_) (fun cdv A outer s H E hr =>
      (ss_cons (s_set 1 sc_law_text.nd (e_lst (a_cons e_str (a_cons e_str (a_cons e_str (a_cons e_str (a_cons e_str (a_cons e_str a_nil))))))))
      (ss_cons (s_set 2 sc_law_text.nd (ec T.f_law_next T.g_law_next G_law_next hr (a_cons (ev 0) (a_cons e_int a_nil))))
      (ss_cons (s_if (t_cmp (x_eq hr) (ev 2) e_int (nomark _)) (ss_cons (s_set 3 sc_law_text.nd (e_ix x_ix (ev 1) (ec T.f_law_next T.g_law_next G_law_next hr (a_cons (ev 0) (a_cons e_int a_nil)))))
      (ss_one (s_ret (e_ix x_ix (e_lst (a_cons (ev 3) (a_cons (e_sl x_slS (ev 3) o_none (o_some (e_un x_neg e_int))) (a_cons (e_bin x_add (ev 3) (e_ix x_ix e_str (ec T.f_law_next T.g_law_next G_law_next hr (a_cons (ev 0) (a_cons e_int a_nil))))) a_nil)))) (ec T.f_law_next T.g_law_next G_law_next hr (a_cons (ev 0) (a_cons e_int a_nil))))))) ss_nil)
      (ss_cons (s_set 4 sc_law_text.nd e_str)
      (ss_cons (s_for (i_rng1 rfl T.b_range (a_cons (ec T.f_law_next T.g_law_next G_law_next hr (a_cons (ev 0) (a_cons e_int a_nil))) a_nil)) (j_name 5 sc_law_text.nd) (ss_one (s_set 4 sc_law_text.nd (e_bin x_add (ev 4) (e_ix x_ix e_str (ec T.f_law_next T.g_law_next G_law_next hr (a_cons (ev 0) (a_cons e_int a_nil))))))))
      (ss_cons (s_if (t_cmp (x_eq hr) (ev 2) e_int (nomark _)) (ss_cons (s_set 6 sc_law_text.nd e_str)
      (ss_cons (s_set 7 sc_law_text.nd (ec T.f_law_next T.g_law_next G_law_next hr (a_cons (ev 0) (a_cons (e_bin x_add (e_callB x_len rfl T.b_len (by decide +kernel) (a_cons (ev 4) a_nil)) e_int) a_nil))))
      (ss_one (s_set 4 sc_law_text.nd (e_bin x_add (e_bin x_add (e_sl x_slS (ev 4) o_none (o_some (ev 7))) (e_ix x_ix (ev 6) (ec T.f_law_next T.g_law_next G_law_next hr (a_cons (ev 0) (a_cons (e_callB x_len rfl T.b_len (by decide +kernel) (a_cons (ev 6) a_nil)) a_nil))))) (e_sl x_slS (ev 4) (o_some (e_bin x_add (ev 7) (ec T.f_law_next T.g_law_next G_law_next hr (a_cons (ev 0) (a_cons e_int a_nil))))) o_none)))))) ss_nil)
      (ss_one (s_ret (ev 4)))))))))) (fun ds G R h => ?_)
  · obtain ⟨pr, rfl, _⟩ := h; rfl
  · obtain ⟨pr, rfl, P0, post⟩ := h
    have happ : ∀ a b : Str, (a ++ b).length = a.length + b.length := fun a b => by
      show (a.cps ++ b.cps).size = _
      rw [Array.size_append]; rfl
    have fit : ∀ n : Nat, n ≤ 100 → n ≤ sizeLine := fun n h => Nat.le_trans h (by decide)
    dsimp! only [id]
    refine ⟨by decide, fun p hp => ?_⟩
    rw [show [D.str (Str.ofString "wide"), D.str (Str.ofString "boxes"), D.str (Str.ofString "choose"), D.str (Str.ofString "else"), D.str (Str.ofString "end"), D.str (Str.ofString "times")] = WDS.map D.str from rfl]
    have A0 : PAdv pr G (gup G p (.lst (WDS.map .str))) := (PAdv.refl P0).grow (Grow.refl.new hp)
    have npr := P0.ne hp
    (simp only [Go]; dsimp! only [id])
    refine c_next T A0.at_ (by decide) (by decide) fun x1 G1 b1 b2 a1 => ?_
    have A1 := A0.trans a1
    have k1 := a1.kp _ _ npr gup_same
    dsimp! only [id]
    (simp only [Go]; dsimp! only [id])
    by_cases h0 : x1 = 0
    · subst h0
      dsimp! only [id]
      refine c_next T A1.at_ (by decide) (by decide) fun x2 G2 c1 c2 a2 => ?_
      have A2 := A1.trans a2
      have k2 := a2.kp _ _ npr k1
      obtain ⟨d, hd, hat⟩ := at_getD (xs := WDS.map D.str) c1 (by rw [List.length_map]; exact c2)
      obtain ⟨wd, hwd, rfl⟩ := List.mem_map.mp hd
      have hwl : wd.length ≤ 6 := (by decide : ∀ w ∈ WDS, w.length ≤ 6) wd hwd
      dsimp! only [k2, hat]
      (simp only [Go]; dsimp! only [id])
      refine ⟨wd, rfl, fit _ (by omega), fun z hz => ?_⟩
      refine c_next T A2.at_ (by decide) (by decide) fun x3 G3 d1 d2 a3 => ?_
      have A3 := A2.trans a3
      dsimp! only [ixS]
      refine ⟨by decide, ?_⟩
      obtain ⟨ch, hch⟩ : ∃ ch, atI (Str.ofString "abcdef").cps.toList x3 = some ch := ⟨_, atI_int d1 (by exact d2)⟩
      rw [hch]
      dsimp! only [addS]
      refine ⟨fit _ (by show wd.length + 1 ≤ 100; omega), by decide, fun p4 hp4 => ?_⟩
      have A4 := A3.grow (Grow.refl.new (o := .lst [D.str wd, D.str z, D.str (wd ++ { cps := #[ch] })]) hp4)
      have n4 := A3.at_.ne hp4
      refine c_next T A4.at_ (by decide) (by decide) fun x5 G5 f1 f2 a5 => ?_
      have k5 := a5.kp _ _ n4 gup_same
      obtain ⟨y, hy, ey⟩ : ∃ y : Str, y.length ≤ 1000 ∧ atI [D.str wd, D.str z, D.str (wd ++ { cps := #[ch] })] x5 = some (.str y) := by
        have : x5 = 0 ∨ x5 = 1 ∨ x5 = 2 := by omega
        rcases this with e | e | e <;> subst e
        · exact ⟨wd, by omega, rfl⟩
        · exact ⟨z, by omega, rfl⟩
        · exact ⟨_, by rw [happ]; show wd.length + 1 ≤ 1000; omega, rfl⟩
      dsimp! only [k5, ey]
      exact post y _ hy (A4.trans a5)
    · have e0 : (x1 = 0) = False := eq_false h0
      dsimp! only [e0]
      (simp only [Go]; dsimp! only [id])
      (simp only [Go]; dsimp! only [id])
      refine c_next T A1.at_ (by decide) (by decide) fun x2 G2 c1 c2 a2 => ?_
      have A2 := A1.trans a2
      obtain ⟨x2, rfl⟩ := Int.eq_ofNat_of_zero_le c1
      dsimp! only [id]
      refine ⟨⟨by omega, by omega⟩, ?_⟩
      generalize hN : Go (dSeq (dIfS _ _ _) _ _) = N
      refine forL_ind (fun r σ G' => ∃ (j c : Nat) (y : Str) (v5 : Option D), j + c = x2 ∧ r = rngD (j : Int) c ∧ PAdv pr G G' ∧ y.length = j ∧ σ = [some (.ref pr), some (.ref p), some (.int x1), none, some (.str y), v5, none, none]) ⟨0, x2, _, none, by omega, rfl, A2, rfl, rfl⟩ ?_ ?_
      · rintro σ G3 ⟨j, c, y, v5, e, e2, A3, hy, rfl⟩
        refine ⟨trivial, ?_⟩
        have hy2 : y.length ≤ 10 := by omega
        rw [← hN]
        (simp only [Go]; dsimp! only [id])
        by_cases h1 : x1 = 1
        · rw [if_pos (decide_eq_true h1)]
          have hzy : (y.length ≤ sizeLine) = True := eq_true (fit _ (by omega))
          obtain ⟨sg, hsg, hsl⟩ : ∃ sg : Str, sg = Str.ofString " !#$&'()*+,-./0123456789:;<=>?@ABCDEFGHIJKLMNOPQRSTUVWXYZ[]^_`{|}~\n" ∧ 1 ≤ sg.length ∧ sg.length ≤ 100 := ⟨_, rfl, by decide, by decide⟩
          rw [← hsg]
          clear hsg
          have hzs : (sg.length ≤ sizeLine) = True := eq_true (fit _ hsl.2)
          (simp only [Go]; dsimp! only [lenS, hzy])
          refine c_next T A3.at_ (by omega) (by omega) fun x4 G4 f1 f2 a4 => ?_
          have A4 := A3.trans a4
          dsimp! only [id]
          (simp only [Go]; dsimp! only [lenS, hzs])
          refine ⟨y, rfl, fit _ (by omega), fun z1 hz1 => ?_⟩
          refine c_next T A4.at_ (by omega) (by omega) fun x5 G5 g1 g2 a5 => ?_
          have A5 := A4.trans a5
          obtain ⟨ch, hch⟩ : ∃ ch, atI sg.cps.toList x5 = some ch := ⟨_, atI_int g1 (by rw [← str_len]; exact g2)⟩
          dsimp! only [ixS, hzs, hch, addS]
          refine ⟨fit _ (by show z1.length + 1 ≤ 100; omega), ?_⟩
          refine c_next T A5.at_ (by decide) (by decide) fun x6 G6 k1 k2 a6 => ?_
          have A6 := A5.trans a6
          dsimp! only [id]
          refine ⟨y, rfl, fit _ (by omega), fun z2 hz2 => ?_⟩
          have hl1 : (z1 ++ { cps := #[ch] } : Str).length = z1.length + 1 := by rw [happ]; rfl
          dsimp! only [addS]
          refine ⟨fit _ (by rw [hl1]; omega), ?_⟩
          (simp only [Go]; dsimp! only [id])
          exact post _ _ (by rw [happ, hl1]; omega) A6
        · rw [if_neg (by rw [decide_eq_false h1]; decide)]
          (simp only [Go]; dsimp! only [id])
          exact post _ _ (by omega) A3
      · rintro z r σ G3 ⟨j, c, y, v5, e, e2, A3, hy, rfl⟩ ih
        cases c with
        | zero => cases e2
        | succ c =>
          rw [rngD_succ] at e2
          cases e2
          refine ⟨trivial, ?_⟩
          dsimp! only [id]
          refine c_next T A3.at_ (by decide) (by decide) fun x4 G4 f1 f2 a4 => ?_
          have hab : (Str.ofString "abcdefghijklmnopqrstuvwxyz").length ≤ sizeLine := by decide
          dsimp! only [ixS]
          refine ⟨hab, ?_⟩
          rw [abc_at f1 f2]
          dsimp! only [addS]
          refine ⟨fit _ (by show y.length + 1 ≤ 100; omega), ?_⟩
          exact ih _ _ ⟨j + 1, c, y ++ ⟨#[97 + x4.toNat]⟩, _, by omega, by congr 1, A3.trans a4, by rw [happ, hy]; rfl, rfl⟩
theorem ok_law_is_name {n : Nat} : Ok P w mg base (n + 1) T.f_law_is_name (S_law_is_name T) := by
  refine def_ok T.f_law_is_name sc_law_is_name (fun ds G R h => ?_) (fun cdv A outer s H E hr =>
      (ss_cons (s_for (i_str (ev 0)) (j_name 1 sc_law_is_name.nd) (ss_one (s_if (t_not (t_chain (x_leS) (x_leS) e_str (ev 1) e_str)) (ss_one (s_ret e_bl)) ss_nil)))
      (ss_cons (s_set 2 sc_law_is_name.nd (e_splitA e_str (a_cons e_str a_nil)))
      (ss_one (s_ret (e_and (e_chain (x_lt) (x_lt) e_int (e_callB x_len rfl T.b_len (by decide +kernel) (a_cons (ev 0) a_nil)) e_int) (e_one (e_cmp (x_eq hr) (e_comp (N' := ["_law_word", "_law_text_here"]) (ix := [none, some 0]) (blk (osc := defScope s_law_is_name) (N := ["_law_text_here", "_law_sign", "_law_words"]) rfl rfl (by decide +kernel)) (i_any (ev 2)) (fun _ _ _ _ => (j_name 0 (show (["_law_word", "_law_text_here"] : List Str).Nodup by decide +kernel))) (fun _ _ _ _ => (ifs_one (t_cmp (x_eq hr) (ev 0) (ev 1) (nomark _)))) (fun _ _ _ _ => (ev 0))) (e_lst a_nil) (nomark _))))))))) (fun ds G R h => ?_)
  · obtain ⟨x, rfl, _⟩ := h; rfl
  · obtain ⟨x, rfl, hx, post⟩ := h
    have hz : x.length ≤ sizeLine := Nat.le_trans hx (by decide)
    have hzT : (x.length ≤ sizeLine) = True := eq_true hz
    dsimp! only [wStr]
    refine ⟨x, rfl, ?_⟩
    refine forL_ind (fun r σ G' => ∃ (l t : List Nat) (v1 : Option D), l ++ t = x.cps.toList ∧ r = t.map (fun c => D.str ⟨#[c]⟩) ∧ G' = G ∧ (∀ c ∈ l, (decide (97 ≤ c) && decide (c ≤ 122)) = true) ∧ σ = [some (.str x), v1, none]) ⟨[], _, none, rfl, rfl, rfl, by simp, rfl⟩ ?_ ?_
    · rintro σ G1 ⟨l, t, v1, e, e2, rfl, hl, rfl⟩
      have ht : t = [] := by simpa using e2.symm
      subst ht
      rw [List.append_nil] at e
      subst e
      refine ⟨trivial, ?_⟩
      have hlt : ltr x = true := List.all_eq_true.mpr hl
      (simp only [Go]; dsimp! only [id])
      refine ⟨_, _, rfl, rfl, by decide, by decide, by rw [words_split]; decide, fun p hp => ?_⟩
      rw [words_split]
      obtain ⟨G2, hG2⟩ : ∃ G2, G2 = gup G1 p (.lst (WDS.map .str)) := ⟨_, rfl⟩
      have g2 : Grow G1 G2 := by rw [hG2]; exact Grow.refl.new hp
      have k2 : G2 p = some (.lst (WDS.map .str)) := by rw [hG2]; exact gup_same
      rw [← hG2]
      clear hG2
      (simp only [Go]; dsimp! only [dChain, lenS, hzT])
      by_cases h1 : 0 < x.length
      · rw [if_pos (decide_eq_true (by omega))]
        by_cases h2 : x.length < 9
        · rw [if_pos (decide_eq_true (by omega))]
          dsimp! only [k2, seqOf_lst]
          intro p3 hp3
          have enm : nmB x = !decide (x ∈ WDS) := by unfold nmB; rw [decide_eq_true (by omega : 1 ≤ x.length), decide_eq_true (by omega : x.length ≤ 8), hlt]; simp
          have k23 : ∀ {o : DO}, gup G2 p3 o p = some (.lst (WDS.map .str)) := fun {o} => by rw [gup_ne (gne k2 hp3)]; exact k2
          refine compL_ind (fun r σ G' => ∃ (l t : List Str) (v : Option D), l ++ t = WDS ∧ r = t.map .str ∧ G' = gup G2 p3 (.lst ((l.filter fun w => decide (w = x)).map .str)) ∧ σ = [v, some (.str x)]) ⟨[], WDS, none, rfl, rfl, rfl, rfl⟩ ?_ ?_
          · rintro σ G3 ⟨l', t, v, e, e2, rfl, rfl⟩
            have ht : t = [] := by simpa using e2.symm
            subst ht
            rw [List.append_nil] at e
            subst e
            refine ⟨by rw [k23]; rfl, by decide, fun p4 hp4 => ?_⟩
            refine cmp_lnil (F := D.str) (xs := WDS.filter fun w => decide (w = x)) (fun k => ⟨_, rfl⟩) (by rw [gup_ne (gne gup_same hp4), gup_same]; rfl) (by rw [gup_same]; rfl) ?_
            have ef : decide ((WDS.filter fun w => decide (w = x)) = []) = nmB x := by
              rw [enm, Bool.eq_iff_iff, decide_eq_true_iff, List.filter_eq_nil_iff, Bool.not_eq_true', decide_eq_false_iff_not]
              constructor
              · intro h hx
                exact h x hx (decide_eq_true rfl)
              · intro h y hy z
                exact h (by rw [← of_decide_eq_true z]; exact hy)
            rw [ef]
            exact post _ ((g2.trans (Grow.refl.new hp3)).new hp4)
          · rintro z r σ G3 ⟨l', t, v, e, e2, rfl, rfl⟩ ih2
            cases t with
            | nil => cases e2
            | cons b t =>
              cases e2
              refine ⟨by rw [k23]; rfl, ?_⟩
              have hlen := congrArg List.length e
              rw [List.length_append, List.length_cons, show WDS.length = 6 from rfl] at hlen
              dsimp! only [id]
              by_cases hb : b = x
              · rw [if_pos (decide_eq_true hb)]
                dsimp! only [gup_same]
                have hfl := List.length_filter_le (fun w => decide (w = x)) l'
                refine ⟨Nat.lt_of_le_of_lt (m := 1000) (by rw [List.length_map]; omega) (by decide), ih2 _ _ ⟨l' ++ [b], t, _, by rw [← e, List.append_assoc]; rfl, rfl, ?_, rfl⟩⟩
                rw [gup_gup, List.filter_append]
                simp [hb]
              · rw [if_neg (by rw [decide_eq_false hb]; decide)]
                refine ih2 _ _ ⟨l' ++ [b], t, _, by rw [← e, List.append_assoc]; rfl, rfl, ?_, rfl⟩
                rw [List.filter_append]
                simp [hb]
        · rw [if_neg (by rw [decide_eq_false (by omega)]; decide)]
          have : nmB x = false := by unfold nmB; rw [decide_eq_false (by omega : ¬ x.length ≤ 8)]; simp
          rw [this] at post
          exact post _ g2
      · rw [if_neg (by rw [decide_eq_false (by omega)]; decide)]
        have : nmB x = false := by unfold nmB; rw [decide_eq_false (by omega : ¬ 1 ≤ x.length)]; simp
        rw [this] at post
        exact post _ g2
    · rintro z r σ G1 ⟨l, t, v1, e, e2, rfl, hl, rfl⟩ ih
      cases t with
      | nil => cases e2
      | cons c t =>
        cases e2
        refine ⟨trivial, ?_⟩
        have bad : ¬ (97 ≤ c ∧ c ≤ 122) → nmB x = false := fun z => by
          have : ltr x = false := by
            cases h : ltr x with
            | false => rfl
            | true =>
              have := List.all_eq_true.mp h c (by rw [← e]; simp)
              simp only [Bool.and_eq_true, decide_eq_true_eq] at this
              exact absurd this z
          unfold nmB
          rw [this, Bool.and_false]
        dsimp! only [dChain]
        refine ⟨_, _, rfl, rfl, ?_⟩
        rw [le_a]
        by_cases h1 : 97 ≤ c
        · rw [decide_eq_true h1]
          dsimp! only [id]
          refine ⟨_, _, rfl, rfl, ?_⟩
          rw [le_z]
          by_cases h2 : c ≤ 122
          · rw [decide_eq_true h2]
            dsimp! only [id]
            exact ih _ _ ⟨l ++ [c], t, _, by rw [← e, List.append_assoc]; rfl, rfl, rfl, fun y hy => by
              rcases List.mem_append.mp hy with hy | hy
              · exact hl y hy
              · rw [List.mem_singleton.mp hy, decide_eq_true h1, decide_eq_true h2]; rfl, rfl⟩
          · rw [decide_eq_false h2]
            dsimp! only [id]
            rw [bad fun z => h2 z.2] at post
            exact post _ Grow.refl
        · rw [decide_eq_false h1]
          dsimp! only [id]
          rw [bad fun z => h1 z.1] at post
          exact post _ Grow.refl
theorem ok_law_count {n dp : Nat} (G_law_count : Ok P w mg base n T.f_law_count (S_law_count_r T dp)) : Ok P w mg base (n + 1) T.f_law_count (S_law_count_r T (dp + 1)) := by
  refine def_ok T.f_law_count sc_law_count (fun ds G R h => ?_) (fun cdv A outer s H E hr =>
      (ss_cons (s_set 1 sc_law_count.nd (e_callB x_len rfl T.b_len (by decide +kernel) (a_cons (ev 0) a_nil)))
      (ss_cons (s_for (i_any (ev 0)) (j_name 2 sc_law_count.nd) (ss_cons (s_if (t_cmp (x_eq hr) (e_ix x_ix (ev 2) e_int) e_str (nomark _)) (ss_one (s_set 1 sc_law_count.nd (e_bin x_add (e_bin x_add (ev 1) (ec T.f_law_count T.g_law_count G_law_count hr (a_cons (e_ix x_ix (ev 2) e_int) a_nil))) (ec T.f_law_count T.g_law_count G_law_count hr (a_cons (e_ix x_ix (ev 2) e_int) a_nil))))) ss_nil)
      (ss_one (s_if (t_cmp (x_eq hr) (e_ix x_ix (ev 2) e_int) e_str (nomark _)) (ss_one (s_set 1 sc_law_count.nd (e_bin x_add (ev 1) (ec T.f_law_count T.g_law_count G_law_count hr (a_cons (e_ix x_ix (ev 2) e_int) a_nil))))) ss_nil))))
      (ss_one (s_ret (ev 1)))))) (fun ds G R h => ?_)
  · obtain ⟨rs, rfl, _⟩ := h; rfl
  · obtain ⟨rs, rfl, hd, post⟩ := h
    dsimp! only [id]
    (simp only [Go]; dsimp! only [rowsD_len])
    refine forL_ind (fun r σ G' => ∃ (l t : List Rowp) (v2 : Option D), l ++ t = rs ∧ r = rowsD t ∧ G' = G ∧ σ = [some (.tup (rowsD rs)), some (.int ((szL l + t.length : Nat) : Int)), v2]) ⟨[], rs, none, rfl, rfl, rfl, by simp [szL]⟩ ?_ ?_
    · rintro σ G1 ⟨l, t, v2, e, e2, rfl, rfl⟩
      have ht : t = [] := by
        cases t with
        | nil => rfl
        | cons x t => cases e2
      subst ht
      rw [List.append_nil] at e
      subst e
      refine ⟨trivial, ?_⟩
      (simp only [Go]; dsimp! only [id])
      exact post
    · rintro x r σ G1 ⟨l, t, v2, e, e2, rfl, rfl⟩ ih
      cases t with
      | nil => cases e2
      | cons r0 t =>
        cases e2
        refine ⟨trivial, ?_⟩
        have hm : r0 ∈ rs := by rw [← e]; simp
        have hdr := mem_dep (Nat.le_of_lt_succ hd) r0 hm
        have hsl : szL (l ++ [r0]) = szL l + szR r0 := by rw [szL_app]; rfl
        have go : ∀ (z : Int), z = ((szL (l ++ [r0]) + t.length : Nat) : Int) → _ := fun z hz => ih [some (.tup (rowsD rs)), some (.int z), some (rowD r0)] G1 ⟨l ++ [r0], t, some (rowD r0), by rw [← e]; simp, rfl, rfl, by rw [hz]⟩
        cases r0 with
        | is x a =>
          dsimp! only [rowD]
          (simp only [Go]; dsimp! only [id])
          exact go _ (by rw [hsl]; show ((szL l + (t.length + 1) : Nat) : Int) = ((szL l + 1 + t.length : Nat) : Int); omega)
        | op x o a b =>
          dsimp! only [rowD]
          (simp only [Go]; dsimp! only [id])
          exact go _ (by rw [hsl]; show ((szL l + (t.length + 1) : Nat) : Int) = ((szL l + 1 + t.length : Nat) : Int); omega)
        | cho a ys ns =>
          have hd' : 1 + max (depL ys) (depL ns) ≤ dp := hdr
          dsimp! only [rowD]
          refine c_count T (by omega) ?_
          dsimp! only [id]
          refine c_count T (by omega) ?_
          dsimp! only [id]
          (simp only [Go]; dsimp! only [id])
          exact go _ (by rw [hsl]; show ((szL l + (t.length + 1) : Nat) : Int) + (szL ys : Int) + (szL ns : Int) = ((szL l + (1 + szL ys + szL ns) + t.length : Nat) : Int); omega)
        | tim k ys =>
          have hd' : 1 + depL ys ≤ dp := hdr
          dsimp! only [rowD]
          (simp only [Go]; dsimp! only [id])
          refine c_count T (by omega) ?_
          dsimp! only [id]
          exact go _ (by rw [hsl]; show ((szL l + (t.length + 1) : Nat) : Int) + (szL ys : Int) = ((szL l + (1 + szL ys) + t.length : Nat) : Int); omega)
theorem ok_law_whole {n : Nat} : Ok P w mg base (n + 1) T.f_law_whole (S_law_whole T) := by
  refine def_ok T.f_law_whole sc_law_whole (fun ds G R h => ?_) (fun cdv A outer s H E hr =>
      (ss_one (s_ret (e_and (e_callB x_isinst rfl T.b_isinstance (by decide +kernel) (a_cons (ev 0) (a_cons (e_type (T := "int") T.b_int (by decide +kernel)) a_nil))) (e_and (e_not (e_callB x_isinst rfl T.b_isinstance (by decide +kernel) (a_cons (ev 0) (a_cons (e_type (T := "bool") T.b_bool (by decide +kernel)) a_nil)))) (e_one (e_cmp (x_eq hr) (ev 0) (ev 1) (nomark _)))))))) (fun ds G R h => ?_)
  · obtain ⟨i, rfl, _⟩ := h; rfl
  · obtain ⟨i, rfl, post⟩ := h
    dsimp! only [id]
    refine ⟨.inl trivial, ?_⟩
    rw [show subK "int" "int" = true from rfl, if_pos rfl]
    exact ⟨.inr (.inr (.inl trivial)), post⟩
theorem ok_law {n : Nat} (G_is_name : Ok P w mg base n T.f_is_name (S_is_name T)) (G_check : Ok P w mg base n T.f_check (S_check T)) (G_rows_in : Ok P w mg base n T.f_rows_in (S_rows_in T)) (G_law_purse : Ok P w mg base n T.f_law_purse (S_law_purse T)) (G_law_program : Ok P w mg base n T.f_law_program (S_law_program T)) (G_law_text : Ok P w mg base n T.f_law_text (S_law_text T)) (G_law_is_name : Ok P w mg base n T.f_law_is_name (S_law_is_name T)) (G_law_count : Ok P w mg base n T.f_law_count (S_law_count T)) (G_law_whole : Ok P w mg base n T.f_law_whole (S_law_whole T)) : Ok P w mg base (n + 1) T.f_law (S_law T) := by
  refine def_ok T.f_law sc_law (fun ds G R h => ?_) (fun cdv A outer s H E hr =>
      (ss_cons (s_for (i_rng1 rfl T.b_range (a_cons (e_callB x_max2 rfl T.b_max (by decide +kernel) (a_cons e_int (a_cons (e_callB x_len rfl T.b_len (by decide +kernel) (a_cons (e_sl x_sl (ev 0) o_none (o_some e_int)) a_nil)) a_nil))) a_nil)) (j_name 1 sc_law.nd) (ss_cons (s_set 2 sc_law.nd (ec T.f_law_text T.g_law_text G_law_text hr (a_cons (ec T.f_law_purse T.g_law_purse G_law_purse hr (a_cons (ev 0) (a_cons (ev 1) a_nil))) a_nil)))
      (ss_cons (s_set 3 sc_law.nd (ec T.f_is_name T.g_is_name G_is_name hr (a_cons (ev 2) a_nil)))
      (ss_one (s_if (t_w (w_or (t_not (t_val (e_callB x_isinst rfl T.b_isinstance (by decide +kernel) (a_cons (ev 3) (a_cons (e_type (T := "bool") T.b_bool (by decide +kernel)) a_nil))))) (w_or1 (t_cmp (x_ne hr) (ev 3) (ec T.f_law_is_name T.g_law_is_name G_law_is_name hr (a_cons (ev 2) a_nil)) (nomark _))))) (ss_one (s_ret e_bl)) ss_nil)))))
      (ss_cons (s_set 4 sc_law.nd (ec T.f_law_program T.g_law_program G_law_program hr (a_cons (ev 0) a_nil)))
      (ss_cons (s_if (t_w (w_or (t_cmp (x_isNot2) (ec T.f_check T.g_check G_check hr (a_cons (ev 4) a_nil)) e_non (nomark _)) (w_or1 (t_not (t_val (e_callB x_all rfl T.b_all (by decide +kernel) (a_cons (e_comp (N' := ["_law_name"]) (ix := [none]) (blk (osc := defScope s_law) (N := ["_law_script", "_law_k", "_law_text_here", "_law_found", "_law_program_here", "_law_row"]) rfl rfl (by decide +kernel)) (i_any (e_ix x_ix (ev 4) e_int)) (fun _ _ _ _ => (j_name 0 (show (["_law_name"] : List Str).Nodup by decide +kernel))) (fun _ _ _ _ => ifs_nil) (fun _ _ _ _ => (ec T.f_is_name T.g_is_name G_is_name hr (a_cons (ev 0) a_nil)))) a_nil))))))) (ss_one (s_ret e_bl)) ss_nil)
      (ss_cons (s_for (i_any (e_ix x_ix (ev 4) e_int)) (j_name 5 sc_law.nd) (ss_one (s_if (t_not (t_val (ec T.f_law_whole T.g_law_whole G_law_whole hr (a_cons (ec T.f_rows_in T.g_rows_in G_rows_in hr (a_cons (e_tup (a_cons (ev 5) a_nil)) a_nil)) (a_cons (ec T.f_law_count T.g_law_count G_law_count hr (a_cons (e_tup (a_cons (ev 5) a_nil)) a_nil)) a_nil))))) (ss_one (s_ret e_bl)) ss_nil)))
      (ss_one (s_ret (e_and (ec T.f_law_whole T.g_law_whole G_law_whole hr (a_cons (ec T.f_rows_in T.g_rows_in G_rows_in hr (a_cons (e_ix x_ix (ev 4) e_int) a_nil)) (a_cons (ec T.f_law_count T.g_law_count G_law_count hr (a_cons (e_ix x_ix (ev 4) e_int) a_nil)) a_nil))) (e_one (ec T.f_law_whole T.g_law_whole G_law_whole hr (a_cons (ec T.f_rows_in T.g_rows_in G_rows_in hr (a_cons (e_tup a_nil) a_nil)) (a_cons e_int a_nil)))))))))))) (fun ds G R h => ?_)
  · obtain ⟨a, ns, rfl, _⟩ := h; rfl
  · obtain ⟨a, ns, rfl, ha, hns, post⟩ := h
    dsimp! only [ha]
    intro p hp
    have e63 : cutD (ns.map D.int) none (some 63) = ns.map D.int := by
      rw [show (63 : Int) = ((63 : Nat) : Int) from rfl, cut_take, List.take_of_length_le (by rw [List.length_map]; exact hns)]
    rw [e63, List.length_map]
    obtain ⟨m, hm, hm2⟩ : ∃ m : Nat, (if (ns.length : Int) > 1 then (ns.length : Int) else 1) = (m : Int) ∧ m ≤ 63 := ⟨max ns.length 1, by split <;> omega, by omega⟩
    rw [hm, Int.toNat_natCast]
    refine ⟨⟨by omega, by omega⟩, ?_⟩
    have ka : seqOf (gup G p (.lst (ns.map D.int)) a) = some (ns.map .int) := by rw [gup_ne (gne ha hp), ha]; rfl
    generalize hN : Go (dSeq (dAsg (dCall (S_law_program T) _ _) _) _ _) = N
    refine forL_ind (fun r σ G' => ∃ (i c : Nat) (v1 v2 v3 : Option D), i + c = m ∧ r = rngD (i : Int) c ∧ Grow (gup G p (.lst (ns.map D.int))) G' ∧ σ = [some (.ref a), v1, v2, v3, none, none]) ⟨0, m, _, _, _, by omega, rfl, Grow.refl, rfl⟩ ?_ ?_
    · rintro σ G1 ⟨i, c, v1, v2, v3, e, e2, g1, rfl⟩
      refine ⟨trivial, ?_⟩
      rw [← hN]
      (simp only [Go]; dsimp! only [id])
      refine call_nd (post := fun d G' => ∃ (W : Nat) (bs : List Str) (rows : List Rowp), d = .tup [.int (W : Int), .tup (bs.map .str), .tup (rowsD rows)] ∧ W ≤ 16 ∧ bs.length ≤ 6 ∧ (∀ b ∈ bs, nmB b = true) ∧ bs.Nodup ∧ okL W bs rows ∧ depL rows ≤ 5 ∧ szL rows ≤ 60 ∧ Grow G1 G') (fun R h => ⟨a, ns, rfl, seqOf_grow g1 ka, hns, fun W bs rows G' y1 y2 y3 y4 y5 y6 y7 y8 y9 y10 y11 => h _ _ ⟨W, bs, rows, rfl, y2, y4, y5, y6, y7, y8, y10, y11⟩⟩) ?_
      rintro d G2 ⟨W, bs, rows, rfl, hW, hbl, hb, hnd, hok, hdp, hsz, g2⟩
      dsimp! only [id]
      (simp only [Go]; dsimp! only [id])
      refine call_nd (post := fun d G' => d = .non ∧ Grow G2 G') (fun R h => ⟨W, bs, rows, rfl, hnd, hbl, hok, hW, hdp, fun G' z => h _ _ ⟨rfl, z⟩⟩) ?_
      rintro d G3 ⟨rfl, g3⟩
      dsimp! only [id]
      intro p4 hp4
      refine compL_ind (fun r σ G' => ∃ (l t : List Str) (v : Option D), l ++ t = bs ∧ r = t.map .str ∧ Grow G3 G' ∧ G' p4 = some (.lst (List.replicate l.length (.bl true))) ∧ σ = [v]) ⟨[], bs, none, rfl, rfl, Grow.refl.new hp4, gup_same, rfl⟩ ?_ ?_
      · rintro σ G4 ⟨l, t, v, e, e2, g4, k4, rfl⟩
        refine ⟨trivial, ?_⟩
        dsimp! only [k4, seqOf_lst, allBl_rep]
        rw [all_rep]
        dsimp! only [id]
        (simp only [Go]; dsimp! only [id])
        refine forL_ind (fun r σ G' => ∃ (l t : List Rowp) (v5 : Option D), l ++ t = rows ∧ r = rowsD t ∧ Grow G4 G' ∧ σ = [some (.ref a), v1, v2, v3, some (.tup [.int (W : Int), .tup (bs.map .str), .tup (rowsD rows)]), v5]) ⟨[], rows, none, rfl, rfl, Grow.refl, rfl⟩ ?_ ?_
        · rintro σ G5 ⟨l5, t5, v5, e5, e52, g5, rfl⟩
          refine ⟨trivial, ?_⟩
          (simp only [Go]; dsimp! only [id])
          refine c_rows_in T (dp := 8) (rs := rows) rfl (by omega) fun G6 g6 => ?_
          dsimp! only [id]
          refine c_count T (dp := 8) (rs := rows) (by omega) ?_
          refine call_det (v := .bl true) (G1 := G6) (fun R h => ⟨_, rfl, h⟩) ?_
          dsimp! only [id]
          refine ⟨by decide, ?_⟩
          refine c_rows_in T (dp := 8) (rs := []) rfl (by decide) fun G7 g7 => ?_
          refine call_det (v := .bl true) (G1 := G7) (fun R h => ⟨_, rfl, h⟩) ?_
          exact post _
        · rintro x r σ G5 ⟨l5, t5, v5, e5, e52, g5, rfl⟩ ih2
          cases t5 with
          | nil => cases e52
          | cons r0 t5 =>
            cases e52
            refine ⟨trivial, ?_⟩
            have hm : r0 ∈ rows := by rw [← e5]; simp
            have hdr := mem_dep hdp r0 hm
            have hd0 : depL [r0] < 8 := by show max (depR r0) 0 < 8; omega
            dsimp! only [id]
            refine ⟨by decide, ?_⟩
            refine c_rows_in T (dp := 8) (rs := [r0]) rfl hd0 fun G6 g6 => ?_
            dsimp! only [id]
            refine ⟨by decide, ?_⟩
            refine c_count T (dp := 8) (rs := [r0]) hd0 ?_
            refine call_det (v := .bl true) (G1 := G6) (fun R h => ⟨_, rfl, h⟩) ?_
            dsimp! only [id]
            exact ih2 _ _ ⟨l5 ++ [r0], t5, some (rowD r0), by rw [← e5]; simp, rfl, g5.trans g6, rfl⟩
      · rintro z r σ G4 ⟨l, t, v, e, e2, g4, k4, rfl⟩ ih2
        cases t with
        | nil => cases e2
        | cons b t =>
          cases e2
          refine ⟨trivial, ?_⟩
          have hbm := hb b (by rw [← e]; simp)
          have hlen := congrArg List.length e
          rw [List.length_append, List.length_cons] at hlen
          dsimp! only [id]
          refine c_name T (Nat.le_trans (nm_len hbm) (by decide)) fun G5 g5 => ?_
          have k5 := g5.kp _ _ k4
          rw [hbm]
          dsimp! only [k5]
          refine ⟨Nat.lt_of_le_of_lt (m := 1000) (by rw [List.length_replicate]; omega) (by decide), ih2 _ _ ⟨l ++ [b], t, _, by rw [← e, List.append_assoc]; rfl, rfl, (g4.trans g5).own hp4, ?_, rfl⟩⟩
          rw [gup_same, List.length_append, List.length_singleton, List.replicate_succ']
    · rintro z r σ G1 ⟨i, c, v1, v2, v3, e, e2, g1, rfl⟩ ih
      cases c with
      | zero => cases e2
      | succ c =>
        rw [rngD_succ] at e2
        cases e2
        refine ⟨trivial, ?_⟩
        have ei : (i : Int) + 1 = ((i + 1 : Nat) : Int) := by omega
        rw [ei] at ih
        dsimp! only [id]
        refine c_purse T (k := i) (seqOf_grow g1 ka) hns (by omega) fun q G2 f2 P2 g2 => ?_
        dsimp! only [id]
        refine call_nd (post := fun d G' => ∃ x : Str, d = .str x ∧ x.length ≤ 1000 ∧ PAdv q G2 G') (fun R h => ⟨q, rfl, P2, fun x G' y1 y2 => h _ _ ⟨x, rfl, y1, y2⟩⟩) ?_
        rintro d G3 ⟨x, rfl, hx, a3⟩
        have g3 := PAdv.back g2 f2 a3
        dsimp! only [id]
        (simp only [Go]; dsimp! only [id])
        refine c_name T hx fun G4 g4 => ?_
        dsimp! only [id]
        (simp only [Go]; dsimp! only [id])
        refine ⟨.inr (.inr (.inl trivial)), ?_⟩
        rw [show subK "bool" "bool" = true from rfl, if_neg (by decide)]
        refine c_lname T hx fun G5 g5 => ?_
        rw [xEqB_bl]
        dsimp! only [id]
        rw [ei]
        exact ih _ _ ⟨i + 1, c, _, _, _, by omega, rfl, ((g1.trans g3).trans g4).trans g5, rfl⟩
end
end Law

namespace Law
open PySem PySem.Spec PyProof.Rows L2 L3
/-- no list among the module's own objects -/
noncomputable def noL : PySem.W.Frag → Bool
  | [] => true
  | p :: r => (match p.2.data with | .seq _ _ => (match p.2.cls with | .type s => !(s == "list") | _ => true) | _ => true) && noL r
theorem noL_of : ∀ {K : PySem.W.Frag} {a : Addr} {o : Obj} {its : Array Value} {n : Nat}, noL K = true → K.lookup a = some o → o.cls = .type "list" → o.data = .seq its n → False
  | [], a, o, its, n, _, e, _, _ => by cases e
  | p :: r, a, o, its, n, h, e, h1, h2 => by
    unfold noL at h
    rw [Bool.and_eq_true] at h
    rw [List.lookup_cons] at e
    split at e
    · cases e
      have q := h.1
      rw [h2] at q
      simp only [h1] at q
      exact absurd q (by decide)
    · exact noL_of h.2 e h1 h2
theorem ar1 {P : List Value → Prop} (h : ∀ a0, P [a0]) : ∀ us : List Value, us.length = 1 → P us
  | [a0], _ => h a0
theorem ar2 {P : List Value → Prop} (h : ∀ a0 a1, P [a0, a1]) : ∀ us : List Value, us.length = 2 → P us
  | [a0, a1], _ => h a0 a1
theorem ar3 {P : List Value → Prop} (h : ∀ a0 a1 a2, P [a0, a1, a2]) : ∀ us : List Value, us.length = 3 → P us
  | [a0, a1, a2], _ => h a0 a1 a2
theorem ar4 {P : List Value → Prop} (h : ∀ a0 a1 a2 a3, P [a0, a1, a2, a3]) : ∀ us : List Value, us.length = 4 → P us
  | [a0, a1, a2, a3], _ => h a0 a1 a2 a3
theorem ar5 {P : List Value → Prop} (h : ∀ a0 a1 a2 a3 a4, P [a0, a1, a2, a3, a4]) : ∀ us : List Value, us.length = 5 → P us
  | [a0, a1, a2, a3, a4], _ => h a0 a1 a2 a3 a4
noncomputable def fnAt_mk {K : PySem.W.Frag} {x qual : Str} {st : Stmt} {ps : List Str} {f : Addr} {oc : Value} {od an : Option Addr} {osl : Array (Option Value)} {kV doc pm cdv ct : Value} (l : K.lookup f = some ⟨oc, od, .func (PySem.W.fnOf x qual (defArgs st) (defBody st) (defScope st) .none kV doc pm an cdv ct), osl⟩)
    (c : PySem.W.codeIn K cdv qual = true) (k : PySem.W.keepIn K (.ref f) = true) (hb : ∀ us : List Value, us.length = ps.length → bindArgs (PySem.W.fnOf x qual (defArgs st) (defBody st) (defScope st) .none kV doc pm an cdv ct) ⟨us, []⟩ = pure (ps.zip us)) : FnAt K x qual st ps :=
  ⟨f, _, ⟨oc, od, .none, kV, doc, pm, an, cdv, ct, osl, rfl, l, c⟩, k, .all hb⟩
noncomputable def spLaw3 : Sp3 := fun ds G R => ∃ (a : Addr) (ns : List Int), ds = [.ref a] ∧ G a = some (.fro (ns.map .int)) ∧ ns.length ≤ 63 ∧ ∀ G', R (.bl true) G'
theorem rel_ints {K : PySem.W.Frag} {H : Hp} : ∀ ns : List Int, RelDs K H (ns.map D.int) (ns.map V.int)
  | [] => .nil
  | _ :: ns => .cons RelD.intI (rel_ints ns)
theorem law_sp {K : PySem.W.Frag} {H : Hp} {a : Addr} {ns : List Int} (hL : noL K = true) (hl : ns.length ≤ 63) (hO : Only H) (hS : SqL K H a (ns.map V.int)) : lowSp K spLaw3 [.ref a] H (fun v _ => v = .bl true) fun _ _ _ => False := by
  have ha : ∃ o, H a = some (.frz o (.lst (ns.map V.int))) := by
    rcases hS with (h | h) | ⟨o, its, n, h1, h2, _, h3, _⟩
    · rcases hO a with z | ⟨o, xs, z⟩
      · rw [h] at z; cases z
      · rw [h] at z; cases z
    · exact h
    · exact (noL_of hL h1 h2 h3).elim
  obtain ⟨o, ha⟩ := ha
  refine ⟨[.ref a], gup (fun _ => none) a (.fro (ns.map .int)), fun d _ => d = .bl true, .cons ?_ .nil, fun b u e => ?_, ⟨a, ns, rfl, gup_same, hl, fun _ => rfl⟩, fun d G' v H' r _ _ e => ?_⟩
  · rw [RelD]
  · by_cases hb : b = a
    · subst hb
      rw [gup_same] at e
      cases e
      exact ⟨o, _, ha, rel_ints ns⟩
    · rw [gup_ne hb] at e; cases e
  · subst e
    rw [RelD] at r
    exact r
end Law
namespace Law
open PySem PySem.Spec PyProof.Rows L2 L3 Rw
set_option maxHeartbeats 4000000
theorem txt_mk {K : PySem.W.Frag} {h : Heap} {mg : Str → Option Value} (X : K.In h) (G : h.Ns mainGlobals mg) 
    {p_is_name : Addr} {od_is_name an_is_name : Option Addr} {sl_is_name : Array (Option Value)} {oc_is_name kV_is_name dc_is_name pm_is_name cd_is_name ct_is_name : Value}
    {p_check : Addr} {od_check an_check : Option Addr} {sl_check : Array (Option Value)} {oc_check kV_check dc_check pm_check cd_check ct_check : Value}
    {p_check_boxes : Addr} {od_check_boxes an_check_boxes : Option Addr} {sl_check_boxes : Array (Option Value)} {oc_check_boxes kV_check_boxes dc_check_boxes pm_check_boxes cd_check_boxes ct_check_boxes : Value}
    {p_check_rows : Addr} {od_check_rows an_check_rows : Option Addr} {sl_check_rows : Array (Option Value)} {oc_check_rows kV_check_rows dc_check_rows pm_check_rows cd_check_rows ct_check_rows : Value}
    {p_check_atom : Addr} {od_check_atom an_check_atom : Option Addr} {sl_check_atom : Array (Option Value)} {oc_check_atom kV_check_atom dc_check_atom pm_check_atom cd_check_atom ct_check_atom : Value}
    {p_atoms_of : Addr} {od_atoms_of an_atoms_of : Option Addr} {sl_atoms_of : Array (Option Value)} {oc_atoms_of kV_atoms_of dc_atoms_of pm_atoms_of cd_atoms_of ct_atoms_of : Value}
    {p_blocks_of : Addr} {od_blocks_of an_blocks_of : Option Addr} {sl_blocks_of : Array (Option Value)} {oc_blocks_of kV_blocks_of dc_blocks_of pm_blocks_of cd_blocks_of ct_blocks_of : Value}
    {p_rows_in : Addr} {od_rows_in an_rows_in : Option Addr} {sl_rows_in : Array (Option Value)} {oc_rows_in kV_rows_in dc_rows_in pm_rows_in cd_rows_in ct_rows_in : Value}
    {p_law_purse : Addr} {od_law_purse an_law_purse : Option Addr} {sl_law_purse : Array (Option Value)} {oc_law_purse kV_law_purse dc_law_purse pm_law_purse cd_law_purse ct_law_purse : Value}
    {p_law_next : Addr} {od_law_next an_law_next : Option Addr} {sl_law_next : Array (Option Value)} {oc_law_next kV_law_next dc_law_next pm_law_next cd_law_next ct_law_next : Value}
    {p_law_names : Addr} {od_law_names an_law_names : Option Addr} {sl_law_names : Array (Option Value)} {oc_law_names kV_law_names dc_law_names pm_law_names cd_law_names ct_law_names : Value}
    {p_law_number : Addr} {od_law_number an_law_number : Option Addr} {sl_law_number : Array (Option Value)} {oc_law_number kV_law_number dc_law_number pm_law_number cd_law_number ct_law_number : Value}
    {p_law_atom : Addr} {od_law_atom an_law_atom : Option Addr} {sl_law_atom : Array (Option Value)} {oc_law_atom kV_law_atom dc_law_atom pm_law_atom cd_law_atom ct_law_atom : Value}
    {p_law_set : Addr} {od_law_set an_law_set : Option Addr} {sl_law_set : Array (Option Value)} {oc_law_set kV_law_set dc_law_set pm_law_set cd_law_set ct_law_set : Value}
    {p_law_shut : Addr} {od_law_shut an_law_shut : Option Addr} {sl_law_shut : Array (Option Value)} {oc_law_shut kV_law_shut dc_law_shut pm_law_shut cd_law_shut ct_law_shut : Value}
    {p_law_rows : Addr} {od_law_rows an_law_rows : Option Addr} {sl_law_rows : Array (Option Value)} {oc_law_rows kV_law_rows dc_law_rows pm_law_rows cd_law_rows ct_law_rows : Value}
    {p_law_program : Addr} {od_law_program an_law_program : Option Addr} {sl_law_program : Array (Option Value)} {oc_law_program kV_law_program dc_law_program pm_law_program cd_law_program ct_law_program : Value}
    {p_law_text : Addr} {od_law_text an_law_text : Option Addr} {sl_law_text : Array (Option Value)} {oc_law_text kV_law_text dc_law_text pm_law_text cd_law_text ct_law_text : Value}
    {p_law_is_name : Addr} {od_law_is_name an_law_is_name : Option Addr} {sl_law_is_name : Array (Option Value)} {oc_law_is_name kV_law_is_name dc_law_is_name pm_law_is_name cd_law_is_name ct_law_is_name : Value}
    {p_law_count : Addr} {od_law_count an_law_count : Option Addr} {sl_law_count : Array (Option Value)} {oc_law_count kV_law_count dc_law_count pm_law_count cd_law_count ct_law_count : Value}
    {p_law_whole : Addr} {od_law_whole an_law_whole : Option Addr} {sl_law_whole : Array (Option Value)} {oc_law_whole kV_law_whole dc_law_whole pm_law_whole cd_law_whole ct_law_whole : Value}
    {p_law : Addr} {od_law an_law : Option Addr} {sl_law : Array (Option Value)} {oc_law kV_law dc_law pm_law cd_law ct_law : Value}
    {t_LETTERS : Tok}
    {t_LONGEST_NAME : Tok}
    {w_WORDS : Addr} {wo_WORDS : Obj} {wn_WORDS : Nat} {t0_WORDS t1_WORDS t2_WORDS t3_WORDS t4_WORDS t5_WORDS : Tok}
    (a_is_name : PySem.W.nsIn K mainGlobals "is_name" = some (some (.ref p_is_name)))
    (l_is_name : K.lookup p_is_name = some ⟨oc_is_name, od_is_name, .func (PySem.W.fnOf "is_name" "is_name" (defArgs s_is_name) (defBody s_is_name) (defScope s_is_name) .none kV_is_name dc_is_name pm_is_name an_is_name cd_is_name ct_is_name), sl_is_name⟩)
    (c_is_name : PySem.W.codeIn K cd_is_name "is_name" = true)
    (k_is_name : PySem.W.keepIn K (.ref p_is_name) = true)
    (a_check : PySem.W.nsIn K mainGlobals "check" = some (some (.ref p_check)))
    (l_check : K.lookup p_check = some ⟨oc_check, od_check, .func (PySem.W.fnOf "check" "check" (defArgs s_check) (defBody s_check) (defScope s_check) .none kV_check dc_check pm_check an_check cd_check ct_check), sl_check⟩)
    (c_check : PySem.W.codeIn K cd_check "check" = true)
    (k_check : PySem.W.keepIn K (.ref p_check) = true)
    (a_check_boxes : PySem.W.nsIn K mainGlobals "check_boxes" = some (some (.ref p_check_boxes)))
    (l_check_boxes : K.lookup p_check_boxes = some ⟨oc_check_boxes, od_check_boxes, .func (PySem.W.fnOf "check_boxes" "check_boxes" (defArgs s_check_boxes) (defBody s_check_boxes) (defScope s_check_boxes) .none kV_check_boxes dc_check_boxes pm_check_boxes an_check_boxes cd_check_boxes ct_check_boxes), sl_check_boxes⟩)
    (c_check_boxes : PySem.W.codeIn K cd_check_boxes "check_boxes" = true)
    (k_check_boxes : PySem.W.keepIn K (.ref p_check_boxes) = true)
    (a_check_rows : PySem.W.nsIn K mainGlobals "check_rows" = some (some (.ref p_check_rows)))
    (l_check_rows : K.lookup p_check_rows = some ⟨oc_check_rows, od_check_rows, .func (PySem.W.fnOf "check_rows" "check_rows" (defArgs s_check_rows) (defBody s_check_rows) (defScope s_check_rows) .none kV_check_rows dc_check_rows pm_check_rows an_check_rows cd_check_rows ct_check_rows), sl_check_rows⟩)
    (c_check_rows : PySem.W.codeIn K cd_check_rows "check_rows" = true)
    (k_check_rows : PySem.W.keepIn K (.ref p_check_rows) = true)
    (a_check_atom : PySem.W.nsIn K mainGlobals "check_atom" = some (some (.ref p_check_atom)))
    (l_check_atom : K.lookup p_check_atom = some ⟨oc_check_atom, od_check_atom, .func (PySem.W.fnOf "check_atom" "check_atom" (defArgs s_check_atom) (defBody s_check_atom) (defScope s_check_atom) .none kV_check_atom dc_check_atom pm_check_atom an_check_atom cd_check_atom ct_check_atom), sl_check_atom⟩)
    (c_check_atom : PySem.W.codeIn K cd_check_atom "check_atom" = true)
    (k_check_atom : PySem.W.keepIn K (.ref p_check_atom) = true)
    (a_atoms_of : PySem.W.nsIn K mainGlobals "atoms_of" = some (some (.ref p_atoms_of)))
    (l_atoms_of : K.lookup p_atoms_of = some ⟨oc_atoms_of, od_atoms_of, .func (PySem.W.fnOf "atoms_of" "atoms_of" (defArgs s_atoms_of) (defBody s_atoms_of) (defScope s_atoms_of) .none kV_atoms_of dc_atoms_of pm_atoms_of an_atoms_of cd_atoms_of ct_atoms_of), sl_atoms_of⟩)
    (c_atoms_of : PySem.W.codeIn K cd_atoms_of "atoms_of" = true)
    (k_atoms_of : PySem.W.keepIn K (.ref p_atoms_of) = true)
    (a_blocks_of : PySem.W.nsIn K mainGlobals "blocks_of" = some (some (.ref p_blocks_of)))
    (l_blocks_of : K.lookup p_blocks_of = some ⟨oc_blocks_of, od_blocks_of, .func (PySem.W.fnOf "blocks_of" "blocks_of" (defArgs s_blocks_of) (defBody s_blocks_of) (defScope s_blocks_of) .none kV_blocks_of dc_blocks_of pm_blocks_of an_blocks_of cd_blocks_of ct_blocks_of), sl_blocks_of⟩)
    (c_blocks_of : PySem.W.codeIn K cd_blocks_of "blocks_of" = true)
    (k_blocks_of : PySem.W.keepIn K (.ref p_blocks_of) = true)
    (a_rows_in : PySem.W.nsIn K mainGlobals "rows_in" = some (some (.ref p_rows_in)))
    (l_rows_in : K.lookup p_rows_in = some ⟨oc_rows_in, od_rows_in, .func (PySem.W.fnOf "rows_in" "rows_in" (defArgs s_rows_in) (defBody s_rows_in) (defScope s_rows_in) .none kV_rows_in dc_rows_in pm_rows_in an_rows_in cd_rows_in ct_rows_in), sl_rows_in⟩)
    (c_rows_in : PySem.W.codeIn K cd_rows_in "rows_in" = true)
    (k_rows_in : PySem.W.keepIn K (.ref p_rows_in) = true)
    (a_law_purse : PySem.W.nsIn K mainGlobals "_law_purse" = some (some (.ref p_law_purse)))
    (l_law_purse : K.lookup p_law_purse = some ⟨oc_law_purse, od_law_purse, .func (PySem.W.fnOf "_law_purse" "_law_purse" (defArgs s_law_purse) (defBody s_law_purse) (defScope s_law_purse) .none kV_law_purse dc_law_purse pm_law_purse an_law_purse cd_law_purse ct_law_purse), sl_law_purse⟩)
    (c_law_purse : PySem.W.codeIn K cd_law_purse "_law_purse" = true)
    (k_law_purse : PySem.W.keepIn K (.ref p_law_purse) = true)
    (a_law_next : PySem.W.nsIn K mainGlobals "_law_next" = some (some (.ref p_law_next)))
    (l_law_next : K.lookup p_law_next = some ⟨oc_law_next, od_law_next, .func (PySem.W.fnOf "_law_next" "_law_next" (defArgs s_law_next) (defBody s_law_next) (defScope s_law_next) .none kV_law_next dc_law_next pm_law_next an_law_next cd_law_next ct_law_next), sl_law_next⟩)
    (c_law_next : PySem.W.codeIn K cd_law_next "_law_next" = true)
    (k_law_next : PySem.W.keepIn K (.ref p_law_next) = true)
    (a_law_names : PySem.W.nsIn K mainGlobals "_law_names" = some (some (.ref p_law_names)))
    (l_law_names : K.lookup p_law_names = some ⟨oc_law_names, od_law_names, .func (PySem.W.fnOf "_law_names" "_law_names" (defArgs s_law_names) (defBody s_law_names) (defScope s_law_names) .none kV_law_names dc_law_names pm_law_names an_law_names cd_law_names ct_law_names), sl_law_names⟩)
    (c_law_names : PySem.W.codeIn K cd_law_names "_law_names" = true)
    (k_law_names : PySem.W.keepIn K (.ref p_law_names) = true)
    (a_law_number : PySem.W.nsIn K mainGlobals "_law_number" = some (some (.ref p_law_number)))
    (l_law_number : K.lookup p_law_number = some ⟨oc_law_number, od_law_number, .func (PySem.W.fnOf "_law_number" "_law_number" (defArgs s_law_number) (defBody s_law_number) (defScope s_law_number) .none kV_law_number dc_law_number pm_law_number an_law_number cd_law_number ct_law_number), sl_law_number⟩)
    (c_law_number : PySem.W.codeIn K cd_law_number "_law_number" = true)
    (k_law_number : PySem.W.keepIn K (.ref p_law_number) = true)
    (a_law_atom : PySem.W.nsIn K mainGlobals "_law_atom" = some (some (.ref p_law_atom)))
    (l_law_atom : K.lookup p_law_atom = some ⟨oc_law_atom, od_law_atom, .func (PySem.W.fnOf "_law_atom" "_law_atom" (defArgs s_law_atom) (defBody s_law_atom) (defScope s_law_atom) .none kV_law_atom dc_law_atom pm_law_atom an_law_atom cd_law_atom ct_law_atom), sl_law_atom⟩)
    (c_law_atom : PySem.W.codeIn K cd_law_atom "_law_atom" = true)
    (k_law_atom : PySem.W.keepIn K (.ref p_law_atom) = true)
    (a_law_set : PySem.W.nsIn K mainGlobals "_law_set" = some (some (.ref p_law_set)))
    (l_law_set : K.lookup p_law_set = some ⟨oc_law_set, od_law_set, .func (PySem.W.fnOf "_law_set" "_law_set" (defArgs s_law_set) (defBody s_law_set) (defScope s_law_set) .none kV_law_set dc_law_set pm_law_set an_law_set cd_law_set ct_law_set), sl_law_set⟩)
    (c_law_set : PySem.W.codeIn K cd_law_set "_law_set" = true)
    (k_law_set : PySem.W.keepIn K (.ref p_law_set) = true)
    (a_law_shut : PySem.W.nsIn K mainGlobals "_law_shut" = some (some (.ref p_law_shut)))
    (l_law_shut : K.lookup p_law_shut = some ⟨oc_law_shut, od_law_shut, .func (PySem.W.fnOf "_law_shut" "_law_shut" (defArgs s_law_shut) (defBody s_law_shut) (defScope s_law_shut) .none kV_law_shut dc_law_shut pm_law_shut an_law_shut cd_law_shut ct_law_shut), sl_law_shut⟩)
    (c_law_shut : PySem.W.codeIn K cd_law_shut "_law_shut" = true)
    (k_law_shut : PySem.W.keepIn K (.ref p_law_shut) = true)
    (a_law_rows : PySem.W.nsIn K mainGlobals "_law_rows" = some (some (.ref p_law_rows)))
    (l_law_rows : K.lookup p_law_rows = some ⟨oc_law_rows, od_law_rows, .func (PySem.W.fnOf "_law_rows" "_law_rows" (defArgs s_law_rows) (defBody s_law_rows) (defScope s_law_rows) .none kV_law_rows dc_law_rows pm_law_rows an_law_rows cd_law_rows ct_law_rows), sl_law_rows⟩)
    (c_law_rows : PySem.W.codeIn K cd_law_rows "_law_rows" = true)
    (k_law_rows : PySem.W.keepIn K (.ref p_law_rows) = true)
    (a_law_program : PySem.W.nsIn K mainGlobals "_law_program" = some (some (.ref p_law_program)))
    (l_law_program : K.lookup p_law_program = some ⟨oc_law_program, od_law_program, .func (PySem.W.fnOf "_law_program" "_law_program" (defArgs s_law_program) (defBody s_law_program) (defScope s_law_program) .none kV_law_program dc_law_program pm_law_program an_law_program cd_law_program ct_law_program), sl_law_program⟩)
    (c_law_program : PySem.W.codeIn K cd_law_program "_law_program" = true)
    (k_law_program : PySem.W.keepIn K (.ref p_law_program) = true)
    (a_law_text : PySem.W.nsIn K mainGlobals "_law_text" = some (some (.ref p_law_text)))
    (l_law_text : K.lookup p_law_text = some ⟨oc_law_text, od_law_text, .func (PySem.W.fnOf "_law_text" "_law_text" (defArgs s_law_text) (defBody s_law_text) (defScope s_law_text) .none kV_law_text dc_law_text pm_law_text an_law_text cd_law_text ct_law_text), sl_law_text⟩)
    (c_law_text : PySem.W.codeIn K cd_law_text "_law_text" = true)
    (k_law_text : PySem.W.keepIn K (.ref p_law_text) = true)
    (a_law_is_name : PySem.W.nsIn K mainGlobals "_law_is_name" = some (some (.ref p_law_is_name)))
    (l_law_is_name : K.lookup p_law_is_name = some ⟨oc_law_is_name, od_law_is_name, .func (PySem.W.fnOf "_law_is_name" "_law_is_name" (defArgs s_law_is_name) (defBody s_law_is_name) (defScope s_law_is_name) .none kV_law_is_name dc_law_is_name pm_law_is_name an_law_is_name cd_law_is_name ct_law_is_name), sl_law_is_name⟩)
    (c_law_is_name : PySem.W.codeIn K cd_law_is_name "_law_is_name" = true)
    (k_law_is_name : PySem.W.keepIn K (.ref p_law_is_name) = true)
    (a_law_count : PySem.W.nsIn K mainGlobals "_law_count" = some (some (.ref p_law_count)))
    (l_law_count : K.lookup p_law_count = some ⟨oc_law_count, od_law_count, .func (PySem.W.fnOf "_law_count" "_law_count" (defArgs s_law_count) (defBody s_law_count) (defScope s_law_count) .none kV_law_count dc_law_count pm_law_count an_law_count cd_law_count ct_law_count), sl_law_count⟩)
    (c_law_count : PySem.W.codeIn K cd_law_count "_law_count" = true)
    (k_law_count : PySem.W.keepIn K (.ref p_law_count) = true)
    (a_law_whole : PySem.W.nsIn K mainGlobals "_law_whole" = some (some (.ref p_law_whole)))
    (l_law_whole : K.lookup p_law_whole = some ⟨oc_law_whole, od_law_whole, .func (PySem.W.fnOf "_law_whole" "_law_whole" (defArgs s_law_whole) (defBody s_law_whole) (defScope s_law_whole) .none kV_law_whole dc_law_whole pm_law_whole an_law_whole cd_law_whole ct_law_whole), sl_law_whole⟩)
    (c_law_whole : PySem.W.codeIn K cd_law_whole "_law_whole" = true)
    (k_law_whole : PySem.W.keepIn K (.ref p_law_whole) = true)
    (a_law : PySem.W.nsIn K mainGlobals "law" = some (some (.ref p_law)))
    (l_law : K.lookup p_law = some ⟨oc_law, od_law, .func (PySem.W.fnOf "law" "law" (defArgs s_law) (defBody s_law) (defScope s_law) .none kV_law dc_law pm_law an_law cd_law ct_law), sl_law⟩)
    (c_law : PySem.W.codeIn K cd_law "law" = true)
    (k_law : PySem.W.keepIn K (.ref p_law) = true)
    (v_LETTERS : PySem.W.nsIn K mainGlobals "LETTERS" = some (some (.str "abcdefghijklmnopqrstuvwxyz" t_LETTERS)))
    (v_LONGEST_NAME : PySem.W.nsIn K mainGlobals "LONGEST_NAME" = some (some (.int 8 t_LONGEST_NAME)))
    (v_WORDS : PySem.W.nsIn K mainGlobals "WORDS" = some (some (.ref w_WORDS)))
    (dl_WORDS : K.lookup w_WORDS = some wo_WORDS)
    (ds_WORDS : wo_WORDS.data = .seq #[.str "wide" t0_WORDS, .str "boxes" t1_WORDS, .str "choose" t2_WORDS, .str "else" t3_WORDS, .str "end" t4_WORDS, .str "times" t5_WORDS] wn_WORDS)
    (ds1_WORDS : wo_WORDS.cls = .type "tuple")
    (ds2_WORDS : wo_WORDS.dict = none)
    (b_abs : PySem.W.nsIn K mainGlobals "abs" = some none)
    (b_all : PySem.W.nsIn K mainGlobals "all" = some none)
    (b_bool : PySem.W.nsIn K mainGlobals "bool" = some none)
    (b_int : PySem.W.nsIn K mainGlobals "int" = some none)
    (b_isinstance : PySem.W.nsIn K mainGlobals "isinstance" = some none)
    (b_len : PySem.W.nsIn K mainGlobals "len" = some none)
    (b_max : PySem.W.nsIn K mainGlobals "max" = some none)
    (b_range : PySem.W.nsIn K mainGlobals "range" = some none)
    (b_str : PySem.W.nsIn K mainGlobals "str" = some none)
    (b_sum : PySem.W.nsIn K mainGlobals "sum" = some none)
    (b_tuple : PySem.W.nsIn K mainGlobals "tuple" = some none) :
    ∃ T : Txt K mg, ∀ (s : Shared) (v : Value), BindsTo s T.f_law.fd ⟨[v], []⟩ [("_law_script", v)] := by
  let f_is_name : FnAt K "is_name" "is_name" s_is_name ["text"] := fnAt_mk (st := s_is_name) l_is_name c_is_name k_is_name (ar1 fun _ => rfl)
  let f_check : FnAt K "check" "check" s_check ["program"] := fnAt_mk (st := s_check) l_check c_check k_check (ar1 fun _ => rfl)
  let f_check_boxes : FnAt K "check_boxes" "check_boxes" s_check_boxes ["boxes"] := fnAt_mk (st := s_check_boxes) l_check_boxes c_check_boxes k_check_boxes (ar1 fun _ => rfl)
  let f_check_rows : FnAt K "check_rows" "check_rows" s_check_rows ["rows", "boxes", "wide"] := fnAt_mk (st := s_check_rows) l_check_rows c_check_rows k_check_rows (ar3 fun _ _ _ => rfl)
  let f_check_atom : FnAt K "check_atom" "check_atom" s_check_atom ["atom", "boxes", "wide"] := fnAt_mk (st := s_check_atom) l_check_atom c_check_atom k_check_atom (ar3 fun _ _ _ => rfl)
  let f_atoms_of : FnAt K "atoms_of" "atoms_of" s_atoms_of ["row"] := fnAt_mk (st := s_atoms_of) l_atoms_of c_atoms_of k_atoms_of (ar1 fun _ => rfl)
  let f_blocks_of : FnAt K "blocks_of" "blocks_of" s_blocks_of ["row"] := fnAt_mk (st := s_blocks_of) l_blocks_of c_blocks_of k_blocks_of (ar1 fun _ => rfl)
  let f_rows_in : FnAt K "rows_in" "rows_in" s_rows_in ["rows"] := fnAt_mk (st := s_rows_in) l_rows_in c_rows_in k_rows_in (ar1 fun _ => rfl)
  let f_law_purse : FnAt K "_law_purse" "_law_purse" s_law_purse ["_law_script", "_law_k"] := fnAt_mk (st := s_law_purse) l_law_purse c_law_purse k_law_purse (ar2 fun _ _ => rfl)
  let f_law_next : FnAt K "_law_next" "_law_next" s_law_next ["_law_purse_here", "_law_many"] := fnAt_mk (st := s_law_next) l_law_next c_law_next k_law_next (ar2 fun _ _ => rfl)
  let f_law_names : FnAt K "_law_names" "_law_names" s_law_names ["_law_purse_here"] := fnAt_mk (st := s_law_names) l_law_names c_law_names k_law_names (ar1 fun _ => rfl)
  let f_law_number : FnAt K "_law_number" "_law_number" s_law_number ["_law_purse_here", "_law_wide"] := fnAt_mk (st := s_law_number) l_law_number c_law_number k_law_number (ar2 fun _ _ => rfl)
  let f_law_atom : FnAt K "_law_atom" "_law_atom" s_law_atom ["_law_purse_here", "_law_wide", "_law_boxes"] := fnAt_mk (st := s_law_atom) l_law_atom c_law_atom k_law_atom (ar3 fun _ _ _ => rfl)
  let f_law_set : FnAt K "_law_set" "_law_set" s_law_set ["_law_purse_here", "_law_wide", "_law_boxes"] := fnAt_mk (st := s_law_set) l_law_set c_law_set k_law_set (ar3 fun _ _ _ => rfl)
  let f_law_shut : FnAt K "_law_shut" "_law_shut" s_law_shut ["_law_opened", "_law_rows_here"] := fnAt_mk (st := s_law_shut) l_law_shut c_law_shut k_law_shut (ar2 fun _ _ => rfl)
  let f_law_rows : FnAt K "_law_rows" "_law_rows" s_law_rows ["_law_script", "_law_wide", "_law_boxes", "_law_most"] := fnAt_mk (st := s_law_rows) l_law_rows c_law_rows k_law_rows (ar4 fun _ _ _ _ => rfl)
  let f_law_program : FnAt K "_law_program" "_law_program" s_law_program ["_law_script"] := fnAt_mk (st := s_law_program) l_law_program c_law_program k_law_program (ar1 fun _ => rfl)
  let f_law_text : FnAt K "_law_text" "_law_text" s_law_text ["_law_purse_here"] := fnAt_mk (st := s_law_text) l_law_text c_law_text k_law_text (ar1 fun _ => rfl)
  let f_law_is_name : FnAt K "_law_is_name" "_law_is_name" s_law_is_name ["_law_text_here"] := fnAt_mk (st := s_law_is_name) l_law_is_name c_law_is_name k_law_is_name (ar1 fun _ => rfl)
  let f_law_count : FnAt K "_law_count" "_law_count" s_law_count ["_law_rows_here"] := fnAt_mk (st := s_law_count) l_law_count c_law_count k_law_count (ar1 fun _ => rfl)
  let f_law_whole : FnAt K "_law_whole" "_law_whole" s_law_whole ["_law_found", "_law_due"] := fnAt_mk (st := s_law_whole) l_law_whole c_law_whole k_law_whole (ar2 fun _ _ => rfl)
  let f_law : FnAt K "law" "law" s_law ["_law_script"] := fnAt_mk (st := s_law) l_law c_law k_law (ar1 fun _ => rfl)
  exact ⟨⟨f_is_name, PySem.W.mg_of X G a_is_name, f_check, PySem.W.mg_of X G a_check, f_check_boxes, PySem.W.mg_of X G a_check_boxes, f_check_rows, PySem.W.mg_of X G a_check_rows, f_check_atom, PySem.W.mg_of X G a_check_atom, f_atoms_of, PySem.W.mg_of X G a_atoms_of, f_blocks_of, PySem.W.mg_of X G a_blocks_of, f_rows_in, PySem.W.mg_of X G a_rows_in, f_law_purse, PySem.W.mg_of X G a_law_purse, f_law_next, PySem.W.mg_of X G a_law_next, f_law_names, PySem.W.mg_of X G a_law_names, f_law_number, PySem.W.mg_of X G a_law_number, f_law_atom, PySem.W.mg_of X G a_law_atom, f_law_set, PySem.W.mg_of X G a_law_set, f_law_shut, PySem.W.mg_of X G a_law_shut, f_law_rows, PySem.W.mg_of X G a_law_rows, f_law_program, PySem.W.mg_of X G a_law_program, f_law_text, PySem.W.mg_of X G a_law_text, f_law_is_name, PySem.W.mg_of X G a_law_is_name, f_law_count, PySem.W.mg_of X G a_law_count, f_law_whole, PySem.W.mg_of X G a_law_whole, f_law, PySem.W.mg_of X G a_law, ⟨t_LETTERS, PySem.W.mg_of X G v_LETTERS⟩, ⟨t_LONGEST_NAME, PySem.W.mg_of X G v_LONGEST_NAME⟩, ⟨w_WORDS, wo_WORDS, _, wn_WORDS, PySem.W.mg_of X G v_WORDS, dl_WORDS, ds1_WORDS, ds_WORDS, by simp [sizeLine_eq], (.cons ⟨t0_WORDS, rfl⟩ (.cons ⟨t1_WORDS, rfl⟩ (.cons ⟨t2_WORDS, rfl⟩ (.cons ⟨t3_WORDS, rfl⟩ (.cons ⟨t4_WORDS, rfl⟩ (.cons ⟨t5_WORDS, rfl⟩ .nil)))))), ds2_WORDS⟩, PySem.W.mg_none_of X G b_abs, PySem.W.mg_none_of X G b_all, PySem.W.mg_none_of X G b_bool, PySem.W.mg_none_of X G b_int, PySem.W.mg_none_of X G b_isinstance, PySem.W.mg_none_of X G b_len, PySem.W.mg_none_of X G b_max, PySem.W.mg_none_of X G b_range, PySem.W.mg_none_of X G b_str, PySem.W.mg_none_of X G b_sum, PySem.W.mg_none_of X G b_tuple⟩, fun s v => .of_eq rfl⟩
theorem all_ok {P : Program} {w : World} {K : PySem.W.Frag} {mg : Str → Option Value} {base : Heap} (T : Txt K mg) : Ok P w mg base 11 T.f_law (S_law T) := by
  have H_is_name : Ok P w mg base 1 T.f_is_name (S_is_name T) := ok_is_name T (n := 0)
  have H_check_boxes : Ok P w mg base 1 T.f_check_boxes (S_check_boxes T) := ok_check_boxes T (n := 0)
  have H_check_atom : Ok P w mg base 1 T.f_check_atom (S_check_atom T) := ok_check_atom T (n := 0)
  have H_atoms_of : Ok P w mg base 1 T.f_atoms_of (S_atoms_of T) := ok_atoms_of T (n := 0)
  have H_blocks_of : Ok P w mg base 1 T.f_blocks_of (S_blocks_of T) := ok_blocks_of T (n := 0)
  have R_check_rows : ∀ dp, Ok P w mg base (1 + dp) T.f_check_rows (S_check_rows_r T dp) := by
    intro dp
    induction dp with
    | zero => exact z_check_rows T
    | succ dp ih => exact ok_check_rows T (n := 1 + dp) (dp := dp) ih (FnOk.mono H_check_atom (by omega)) (FnOk.mono H_atoms_of (by omega)) (FnOk.mono H_blocks_of (by omega))
  have H_check_rows : Ok P w mg base 9 T.f_check_rows (S_check_rows T) := R_check_rows 8
  have H_check : Ok P w mg base 10 T.f_check (S_check T) := ok_check T (n := 9) (FnOk.mono H_check_boxes (by decide)) (FnOk.mono H_check_rows (by decide))
  have R_rows_in : ∀ dp, Ok P w mg base (1 + dp) T.f_rows_in (S_rows_in_r T dp) := by
    intro dp
    induction dp with
    | zero => exact z_rows_in T
    | succ dp ih => exact ok_rows_in T (n := 1 + dp) (dp := dp) (FnOk.mono H_blocks_of (by omega)) ih
  have H_rows_in : Ok P w mg base 9 T.f_rows_in (S_rows_in T) := R_rows_in 8
  have H_law_purse : Ok P w mg base 1 T.f_law_purse (S_law_purse T) := ok_law_purse T (n := 0)
  have H_law_next : Ok P w mg base 1 T.f_law_next (S_law_next T) := ok_law_next T (n := 0)
  have H_law_names : Ok P w mg base 2 T.f_law_names (S_law_names T) := ok_law_names T (n := 1) (FnOk.mono H_law_next (by decide))
  have H_law_number : Ok P w mg base 2 T.f_law_number (S_law_number T) := ok_law_number T (n := 1) (FnOk.mono H_law_next (by decide))
  have H_law_atom : Ok P w mg base 3 T.f_law_atom (S_law_atom T) := ok_law_atom T (n := 2) (FnOk.mono H_law_next (by decide)) (FnOk.mono H_law_number (by decide))
  have H_law_set : Ok P w mg base 4 T.f_law_set (S_law_set T) := ok_law_set T (n := 3) (FnOk.mono H_law_next (by decide)) (FnOk.mono H_law_atom (by decide))
  have H_law_shut : Ok P w mg base 1 T.f_law_shut (S_law_shut T) := ok_law_shut T (n := 0)
  have H_law_rows : Ok P w mg base 5 T.f_law_rows (S_law_rows T) := ok_law_rows T (n := 4) (FnOk.mono H_law_purse (by decide)) (FnOk.mono H_law_next (by decide)) (FnOk.mono H_law_atom (by decide)) (FnOk.mono H_law_set (by decide)) (FnOk.mono H_law_shut (by decide))
  have H_law_program : Ok P w mg base 6 T.f_law_program (S_law_program T) := ok_law_program T (n := 5) (FnOk.mono H_law_purse (by decide)) (FnOk.mono H_law_next (by decide)) (FnOk.mono H_law_names (by decide)) (FnOk.mono H_law_rows (by decide))
  have H_law_text : Ok P w mg base 2 T.f_law_text (S_law_text T) := ok_law_text T (n := 1) (FnOk.mono H_law_next (by decide))
  have H_law_is_name : Ok P w mg base 1 T.f_law_is_name (S_law_is_name T) := ok_law_is_name T (n := 0)
  have R_law_count : ∀ dp, Ok P w mg base (0 + dp) T.f_law_count (S_law_count_r T dp) := by
    intro dp
    induction dp with
    | zero => exact z_law_count T
    | succ dp ih => exact ok_law_count T (n := 0 + dp) (dp := dp) ih
  have H_law_count : Ok P w mg base 8 T.f_law_count (S_law_count T) := R_law_count 8
  have H_law_whole : Ok P w mg base 1 T.f_law_whole (S_law_whole T) := ok_law_whole T (n := 0)
  have H_law : Ok P w mg base 11 T.f_law (S_law T) := ok_law T (n := 10) (FnOk.mono H_is_name (by decide)) (FnOk.mono H_check (by decide)) (FnOk.mono H_rows_in (by decide)) (FnOk.mono H_law_purse (by decide)) (FnOk.mono H_law_program (by decide)) (FnOk.mono H_law_text (by decide)) (FnOk.mono H_law_is_name (by decide)) (FnOk.mono H_law_count (by decide)) (FnOk.mono H_law_whole (by decide))
  exact H_law
theorem walk {l : PySem.W.OpenLaw} {q : Program} {loose : List Str} {XP : (Str → Option Value) → Heap → Prop} {YP : World → Heap → Prop} {d : DefRec} {K : Params → PySem.W.Frag} (hn : l.most = some 63) (hdf : d.params.defaults = [])
    (hY : ∀ (w : World) (h : Heap), YP w h → (K w.params).In h) (hL : ∀ w : World, noL (K w.params) = true)
    (F : ∀ (w : World) (mg : Str → Option Value) (fa : Addr) (h : Heap), (K w.params).In h → h.Ns mainGlobals mg → mg d.name = some (.ref fa) → ∃ T : Txt (K w.params) mg, ∀ (s : Shared) (v : Value), BindsTo s T.f_law.fd ⟨[v], []⟩ [("_law_script", v)]) (hdn : d.name = "law" := by rfl) :
    PySem.W.WalkO q loose XP YP l.row.toRowW d [] (fun f vs => PySem.call f vs) := by
  refine L2.walk_of (n := 63) (k := 11) (x := "_law_script") (CX := fun _ => CX0) (sp := fun w => lowSp (K w.params) spLaw3) hn (by decide) hdf ⟨rfl, by decide, by decide⟩ hY (fun w mg fa h hK hN hm => ?_) (fun w H a ns hl hO hS => law_sp (hL w) hl hO hS) fun _ _ _ _ _ z => z
  obtain ⟨T, hb⟩ := F w mg fa h hK hN hm
  rw [hdn] at hm
  have e := hm.symm.trans T.g_law
  cases e
  exact ⟨T.f_law.fd, hb, fun base _ _ => all_ok T⟩
end Law

noncomputable def PySem.W.Fast.tw6780178347465125109 : Nat := 0
noncomputable def PySem.W.Fast.tw16425759820520024305 : Nat := 0
noncomputable def PySem.W.Fast.tw14212790718864289876 : Nat := 0
noncomputable def PySem.W.Fast.tw12318940897987151407 : Nat := 0
noncomputable def PySem.W.Fast.tw11337533326726981124 : Nat := 0
noncomputable def PySem.W.Fast.tw1554985209795665322 : Nat := 0
noncomputable def PySem.W.Fast.tw3610763982059660923 : Nat := 0
noncomputable def PySem.W.Fast.tw6486037427339518009 : Nat := 0
noncomputable def PySem.W.Fast.tw15965208266506765398 : Nat := 0
noncomputable def PySem.W.Fast.tw15544990787628983892 : Nat := 0
noncomputable def PySem.W.Fast.tw5811689035274931124 : Nat := 0
open PySem PySem.W PyProof.Rows
set_option maxHeartbeats 0 in
theorem PySem.Challenge.cw_nolitter_k01_names_and_rows_holds : PySem.Challenge.rw_nolitter_k01_names_and_rows.Holds := by
  w_on; o_law; k_head; (case hw => w_witness2)
  k_fill
  refine Law.walk (l := PySem.Challenge.rw_nolitter_k01_names_and_rows) rfl rfl (fun w h Y => PySem.W.kIn_of Y) ?L ?F
  case L => exact fun w => rfl
  case F =>
    intro w mg fa h KX G hmg
    refine' Law.txt_mk KX G ?a_is_name ?l_is_name ?c_is_name ?k_is_name ?a_check ?l_check ?c_check ?k_check ?a_check_boxes ?l_check_boxes ?c_check_boxes ?k_check_boxes ?a_check_rows ?l_check_rows ?c_check_rows ?k_check_rows ?a_check_atom ?l_check_atom ?c_check_atom ?k_check_atom ?a_atoms_of ?l_atoms_of ?c_atoms_of ?k_atoms_of ?a_blocks_of ?l_blocks_of ?c_blocks_of ?k_blocks_of ?a_rows_in ?l_rows_in ?c_rows_in ?k_rows_in ?a_law_purse ?l_law_purse ?c_law_purse ?k_law_purse ?a_law_next ?l_law_next ?c_law_next ?k_law_next ?a_law_names ?l_law_names ?c_law_names ?k_law_names ?a_law_number ?l_law_number ?c_law_number ?k_law_number ?a_law_atom ?l_law_atom ?c_law_atom ?k_law_atom ?a_law_set ?l_law_set ?c_law_set ?k_law_set ?a_law_shut ?l_law_shut ?c_law_shut ?k_law_shut ?a_law_rows ?l_law_rows ?c_law_rows ?k_law_rows ?a_law_program ?l_law_program ?c_law_program ?k_law_program ?a_law_text ?l_law_text ?c_law_text ?k_law_text ?a_law_is_name ?l_law_is_name ?c_law_is_name ?k_law_is_name ?a_law_count ?l_law_count ?c_law_count ?k_law_count ?a_law_whole ?l_law_whole ?c_law_whole ?k_law_whole ?a_law ?l_law ?c_law ?k_law ?v_LETTERS ?v_LONGEST_NAME ?v_WORDS ?dl_WORDS ?ds_WORDS ?ds1_WORDS ?ds2_WORDS ?b_abs ?b_all ?b_bool ?b_int ?b_isinstance ?b_len ?b_max ?b_range ?b_str ?b_sum ?b_tuple
    (case a_is_name => k_is)
    (case l_is_name => k_is)
    (case c_is_name => k_is)
    (case k_is_name => k_is)
    (case a_check => k_is)
    (case l_check => k_is)
    (case c_check => k_is)
    (case k_check => k_is)
    (case a_check_boxes => k_is)
    (case l_check_boxes => k_is)
    (case c_check_boxes => k_is)
    (case k_check_boxes => k_is)
    (case a_check_rows => k_is)
    (case l_check_rows => k_is)
    (case c_check_rows => k_is)
    (case k_check_rows => k_is)
    (case a_check_atom => k_is)
    (case l_check_atom => k_is)
    (case c_check_atom => k_is)
    (case k_check_atom => k_is)
    (case a_atoms_of => k_is)
    (case l_atoms_of => k_is)
    (case c_atoms_of => k_is)
    (case k_atoms_of => k_is)
    (case a_blocks_of => k_is)
    (case l_blocks_of => k_is)
    (case c_blocks_of => k_is)
    (case k_blocks_of => k_is)
    (case a_rows_in => k_is)
    (case l_rows_in => k_is)
    (case c_rows_in => k_is)
    (case k_rows_in => k_is)
    (case a_law_purse => k_is)
    (case l_law_purse => k_is)
    (case c_law_purse => k_is)
    (case k_law_purse => k_is)
    (case a_law_next => k_is)
    (case l_law_next => k_is)
    (case c_law_next => k_is)
    (case k_law_next => k_is)
    (case a_law_names => k_is)
    (case l_law_names => k_is)
    (case c_law_names => k_is)
    (case k_law_names => k_is)
    (case a_law_number => k_is)
    (case l_law_number => k_is)
    (case c_law_number => k_is)
    (case k_law_number => k_is)
    (case a_law_atom => k_is)
    (case l_law_atom => k_is)
    (case c_law_atom => k_is)
    (case k_law_atom => k_is)
    (case a_law_set => k_is)
    (case l_law_set => k_is)
    (case c_law_set => k_is)
    (case k_law_set => k_is)
    (case a_law_shut => k_is)
    (case l_law_shut => k_is)
    (case c_law_shut => k_is)
    (case k_law_shut => k_is)
    (case a_law_rows => k_is)
    (case l_law_rows => k_is)
    (case c_law_rows => k_is)
    (case k_law_rows => k_is)
    (case a_law_program => k_is)
    (case l_law_program => k_is)
    (case c_law_program => k_is)
    (case k_law_program => k_is)
    (case a_law_text => k_is)
    (case l_law_text => k_is)
    (case c_law_text => k_is)
    (case k_law_text => k_is)
    (case a_law_is_name => k_is)
    (case l_law_is_name => k_is)
    (case c_law_is_name => k_is)
    (case k_law_is_name => k_is)
    (case a_law_count => k_is)
    (case l_law_count => k_is)
    (case c_law_count => k_is)
    (case k_law_count => k_is)
    (case a_law_whole => k_is)
    (case l_law_whole => k_is)
    (case c_law_whole => k_is)
    (case k_law_whole => k_is)
    (case a_law => k_is)
    (case l_law => k_is)
    (case c_law => k_is)
    (case k_law => k_is)
    (case v_LETTERS => k_is)
    (case v_LONGEST_NAME => k_is)
    (case v_WORDS => k_is)
    (case dl_WORDS => k_is)
    (case ds_WORDS => exact rfl)
    (case ds1_WORDS => exact rfl)
    (case ds2_WORDS => exact rfl)
    (case b_abs => k_is)
    (case b_all => k_is)
    (case b_bool => k_is)
    (case b_int => k_is)
    (case b_isinstance => k_is)
    (case b_len => k_is)
    (case b_max => k_is)
    (case b_range => k_is)
    (case b_str => k_is)
    (case b_sum => k_is)
    (case b_tuple => k_is)

